/- Folds, plain: what they cover; a fold is in form, and at rest. -/
import Derived.Test.YtfpmijfcemopoaaGreatKb38
import Derived.Test.YtfpmijfcemopoaaGreatKb27
namespace Go.Proofs.YtfpmijfcemopoaaGreat
open Go.RowKit
theorem countP_one {α : Type} {p : α → Bool} : ∀ {L : List α}, L.Pairwise (fun a b => ¬ (p a = true ∧ p b = true)) → L.countP p ≤ 1
 | [], _ => Nat.zero_le _
 | a :: L, h => by
  obtain ⟨h1, h2⟩ := List.pairwise_cons.1 h
  cases ha : p a
  ·rw [List.countP_cons_of_neg (by rw [ha]; decide)]
   exact countP_one h2
  ·rw [List.countP_cons_of_pos ha]
   have : L.countP p = 0 := by
    rw [List.countP_eq_zero]
    intro b hb hp
    exact h1 b hb ⟨ha, hp⟩
   omega
theorem cb_asym : ∀ a b : List UInt8, Lib.compareBytes a b < 0 → ¬ Lib.compareBytes b a < 0
 | [], [], h => by simp [Lib.compareBytes] at h
 | [], _ :: _, _ => by simp [Lib.compareBytes]
 | _ :: _, [], h => by simp [Lib.compareBytes] at h
 | a :: x, b :: y, h => by
  by_cases h1 : a < b
  ·have h2 : ¬ b < a := fun h => by have := UInt8.lt_trans h1 h; exact UInt8.lt_irrefl _ this
   simp [Lib.compareBytes, h1, h2]
  ·by_cases h2 : b < a
   ·simp [Lib.compareBytes, h1, h2] at h
   ·simp only [Lib.compareBytes, h1, h2, if_false] at h ⊢
    exact cb_asym x y h
theorem cmpS_ne {a b : ByteArray} (h : cmpS a b < 0) : a ≠ b := fun e => by
 rw [e] at h
 unfold cmpS at h
 rw [cb_self] at h
 exact absurd h (by decide)
theorem cov_any {r : Rc} {e : K.En} : covB r e = true ↔ (r.s = nilF ∨ r.s = e.sku) ∧ inB r.p.P e = true := by
 unfold covB
 rw [Bool.and_eq_true, Bool.or_eq_true, decide_eq_true_eq]
 constructor
 ·rintro ⟨h2, h3⟩
  exact ⟨h2.elim (fun h => .inl (nilF_of h)) (fun h => .inr (sku_eq h)), h3⟩
 ·rintro ⟨h2, h3⟩
  exact ⟨h2.elim (fun h => .inl (by rw [h]; rfl)) (fun h => .inr (by rw [h]; exact sku_refl _)), h3⟩
theorem in_mem {P : Pst} {e : K.En} : inB P e = true ↔ V.isR e.rep = true ∧ mem (runsAt P e.rep.toNat) e.num := by rw [inB_iff]; rfl
theorem isR_lt {e : K.En} (h : V.isR e.rep = true) : e.rep.toNat < 16 := by
 have : 0 ≤ e.rep ∧ e.rep < 16 := by simpa [V.isR] using h
 omega
theorem fold_has {R F : List Rc} (hF : FoldOf R F) {f : Rc} (hf : f ∈ F) {r : Nat} (hr : r < 16) {n : Int} : mem (runsAt f.p.P r) n ↔ FoldM R f.s r n := by
 obtain ⟨C, hC, hI⟩ := (hF.2.1 f hf).2.1
 rw [canon_mem hC r hr n]
 exact hI r hr n
theorem fold_any_cov {R F : List Rc} (hF : FoldOf R F) (e : K.En) : F.any (fun r => covB r e) = R.any (fun r => covB r e) := by
 have key : F.any (fun r => covB r e) = true ↔ R.any (fun r => covB r e) = true := by
  rw [List.any_eq_true, List.any_eq_true]
  constructor
  ·rintro ⟨f, hf, hc⟩
   obtain ⟨h1, h2⟩ := cov_any.1 hc
   obtain ⟨h3, h4⟩ := in_mem.1 h2
   obtain ⟨⟨x, hx, hxs, hm⟩, -⟩ := (fold_has hF hf (isR_lt h3)).1 h4
   exact ⟨x, hx, cov_any.2 ⟨by rw [hxs]; exact h1, in_mem.2 ⟨h3, hm⟩⟩⟩
  ·rintro ⟨r, hr, hc⟩
   obtain ⟨h1, h2⟩ := cov_any.1 hc
   obtain ⟨h3, h4⟩ := in_mem.1 h2
   have hrn := isR_lt h3
   have step : ∀ s, (s = nilF ∨ s = e.sku) → FoldM R s e.rep.toNat e.num → ∃ f, f ∈ F ∧ covB f e = true := fun s hs1 hM => by
    obtain ⟨x, hx, hxs, -⟩ := hM.1
    apply Classical.byContradiction
    intro hn
    refine hF.2.2 s ⟨x, hx, hxs⟩ (fun f hf hfs => hn ⟨f, hf, cov_any.2 ⟨by rw [hfs]; exact hs1, in_mem.2 ⟨h3, (fold_has hF hf hrn).2 (by rw [hfs]; exact hM)⟩⟩⟩) _ hrn _ hM
   by_cases hz : ∃ x ∈ R, x.s = nilF ∧ mem (runsAt x.p.P e.rep.toNat) e.num
   ·exact step nilF (.inl rfl) ⟨hz, fun h => absurd rfl h⟩
   ·rcases h1 with h1 | h1
    ·exact absurd ⟨r, hr, h1, h4⟩ hz
    ·exact step e.sku (.inr rfl) ⟨⟨r, hr, h1, h4⟩, fun _ => hz⟩
 cases h1 : F.any (fun r => covB r e) <;> cases h2 : R.any (fun r => covB r e)
 ·rfl
 ·rw [h1, h2] at key; exact absurd (key.2 rfl) (by decide)
 ·rw [h1, h2] at key; exact absurd (key.1 rfl) (by decide)
 ·rfl
theorem fold_once {R F : List Rc} (hF : FoldOf R F) (e : K.En) : F.countP (fun r => covB r e) ≤ 1 := by
 refine countP_one (hF.1.imp_of_mem fun {a b} ha hb hab => ?_)
 rintro ⟨h1, h2⟩
 have hne := cmpS_ne hab
 obtain ⟨a1, a2⟩ := cov_any.1 h1
 obtain ⟨b1, b2⟩ := cov_any.1 h2
 obtain ⟨h3, h4⟩ := in_mem.1 a2
 obtain ⟨-, h5⟩ := in_mem.1 b2
 have hr := isR_lt h3
 have fa := (fold_has hF ha hr).1 h4
 have fb := (fold_has hF hb hr).1 h5
 by_cases hn : a.s = nilF
 ·have hb2 : b.s ≠ nilF := fun e => hne (hn.trans e.symm)
  obtain ⟨x, hx, hxs, hm⟩ := fa.1
  exact fb.2 hb2 ⟨x, hx, by rw [hxs]; exact hn, hm⟩
 ·by_cases hn2 : b.s = nilF
  ·obtain ⟨x, hx, hxs, hm⟩ := fb.1
   exact fa.2 hn ⟨x, hx, by rw [hxs]; exact hn2, hm⟩
  ·exact hne ((a1.resolve_left hn).trans (b1.resolve_left hn2).symm)
theorem fold_free {R F : List Rc} (hF : FoldOf R F) (e : K.En) : freeB F e = freeB R e := by unfold freeB; rw [fold_any_cov hF e]
theorem fold_bars {R F : List Rc} (hF : FoldOf R F) (e : K.En) : ((F.countP (fun r => covB r e) : Int) == 1) = decide ((0 : Int) < (R.countP (fun r => covB r e) : Int)) := by
 have h1 := fold_once hF e
 have h2 := fold_any_cov hF e
 have h3 : ∀ L : List Rc, L.any (fun r => covB r e) = true ↔ 0 < L.countP (fun r => covB r e) := fun L => by
  rw [List.countP_pos_iff, List.any_eq_true]
 by_cases hp : 0 < R.countP (fun r => covB r e)
 ·have h4 := (h3 F).1 (h2.trans ((h3 R).2 hp))
  have h5 : F.countP (fun r => covB r e) = 1 := by omega
  rw [h5, decide_eq_true (show (0 : Int) < (R.countP (fun r => covB r e) : Int) by omega)]
  rfl
 ·have h4 : ¬ 0 < F.countP (fun r => covB r e) := fun h => hp ((h3 R).1 (h2.symm.trans ((h3 F).2 h)))
  have h5 : F.countP (fun r => covB r e) = 0 := by omega
  rw [h5, decide_eq_false (show ¬ (0 : Int) < (R.countP (fun r => covB r e) : Int) by omega)]
  rfl
theorem fold_ok {R F : List Rc} (hR : OkR R R.length) (hF : FoldOf R F) : OkR F F.length := by
 intro j hj
 have hm : F.getD j rc0 ∈ F := by
  have : F.getD j rc0 = F[j] := by simp [List.getD, List.getElem?_eq_getElem hj]
  rw [this]; exact List.getElem_mem hj
 obtain ⟨⟨r, hr, hrs⟩, ⟨C, hC, -⟩, hE⟩ := hF.2.1 _ hm
 refine ⟨⟨?_, canon_iff.1 hC.canon, hE⟩, fun h0 => ?_⟩
 ·rw [← hrs]
  obtain ⟨k, hk, rfl⟩ := List.getElem_of_mem hr
  have := (hR k hk).1.1
  have e : R.getD k rc0 = R[k] := by simp [List.getD, List.getElem?_eq_getElem hk]
  rw [e] at this
  exact this
 ·have h1 := List.pairwise_iff_getElem.1 hF.1 (j - 1) j (by omega) hj (by omega)
  have e1 : F.getD (j - 1) rc0 = F[j - 1] := by simp [List.getD, List.getElem?_eq_getElem (show j - 1 < F.length by omega)]
  have e2 : F.getD j rc0 = F[j] := by simp [List.getD, List.getElem?_eq_getElem hj]
  rw [e1, e2]
  exact ⟨_, .inl ⟨by omega, rfl⟩, h1⟩
theorem plR_unique : ∀ {M F : List Rc}, M.Pairwise (fun a b => cmpS a.s b.s < 0) → F.Pairwise (fun a b => cmpS a.s b.s < 0) → (∀ x, x ∈ plR M ↔ x ∈ plR F) → plR M = plR F
 | [], [], _, _, _ => rfl
 | [], b :: _, _, _, h => absurd ((h (b.s, b.p.P)).2 (by simp [plR])) (by simp [plR])
 | a :: _, [], _, _, h => absurd ((h (a.s, a.p.P)).1 (by simp [plR])) (by simp [plR])
 | a :: M, b :: F, h1, h2, h => by
  obtain ⟨a1, a2⟩ := List.pairwise_cons.1 h1
  obtain ⟨b1, b2⟩ := List.pairwise_cons.1 h2
  have low : ∀ {L : List Rc} {c : Rc} {x : Rp}, (∀ y ∈ L, cmpS c.s y.s < 0) → x ∈ plR L → cmpS c.s x.1 < 0 := fun {L c x} hl hx => by
   obtain ⟨y, hy, rfl⟩ := List.mem_map.1 hx
   exact hl y hy
  have e : (a.s, a.p.P) = (b.s, b.p.P) := by
   rcases List.mem_cons.1 ((h (a.s, a.p.P)).1 (by simp [plR])) with e | e
   ·exact e
   ·rcases List.mem_cons.1 ((h (b.s, b.p.P)).2 (by simp [plR])) with e' | e'
    ·exact e'.symm
    ·exact absurd (low b1 e) (cb_asym _ _ (low a1 e'))
  have ih := plR_unique a2 b2 (fun x => by
   have hx := h x
   have c1 : ∀ y, y ∈ plR (a :: M) ↔ y = (a.s, a.p.P) ∨ y ∈ plR M := fun y => List.mem_cons
   have c2 : ∀ y, y ∈ plR (b :: F) ↔ y = (b.s, b.p.P) ∨ y ∈ plR F := fun y => List.mem_cons
   rw [c1, c2] at hx
   constructor
   ·intro hm
    rcases hx.1 (.inr hm) with e2 | e2
    ·have := low a1 hm
     rw [e2, ← e] at this
     exact absurd rfl (cmpS_ne this)
    ·exact e2
   ·intro hm
    rcases hx.2 (.inr hm) with e2 | e2
    ·have := low b1 hm
     rw [e2, e] at this
     exact absurd rfl (cmpS_ne this)
    ·exact e2)
  show (a.s, a.p.P) :: plR M = (b.s, b.p.P) :: plR F
  rw [e, ih]
theorem fold_sku_one {R F : List Rc} (hF : FoldOf R F) {a b : Rc} (ha : a ∈ F) (hb : b ∈ F) (h : a.s = b.s) : a = b := by
 obtain ⟨i, hi, rfl⟩ := List.getElem_of_mem ha
 obtain ⟨j, hj, rfl⟩ := List.getElem_of_mem hb
 rcases Nat.lt_trichotomy i j with h1 | h1 | h1
 ·exact absurd h (cmpS_ne (List.pairwise_iff_getElem.1 hF.1 i j hi hj h1))
 ·subst h1; rfl
 ·exact absurd h.symm (cmpS_ne (List.pairwise_iff_getElem.1 hF.1 j i hj hi h1))
theorem fold_rest {R F M : List Rc} (hF : FoldOf R F) (hM : FoldOf F M) : plR M = plR F := by
 have same : ∀ f ∈ F, ∀ r, r < 16 → ∀ n, FoldM F f.s r n ↔ mem (runsAt f.p.P r) n := fun f hf r hr n => by
  constructor
  ·rintro ⟨⟨x, hx, hxs, hm⟩, -⟩
   rw [fold_sku_one hF hx hf hxs] at hm
   exact hm
  ·intro hm
   refine ⟨⟨f, hf, rfl, hm⟩, ?_⟩
   rintro hn ⟨x, hx, hxs, hm2⟩
   have h1 := (fold_has hF hf hr).1 hm
   obtain ⟨⟨y, hy, hys, hm3⟩, -⟩ := (fold_has hF hx hr).1 hm2
   exact h1.2 hn ⟨y, hy, by rw [hys]; exact hxs, hm3⟩
 have eqP : ∀ f ∈ F, ∀ x ∈ M, x.s = f.s → x.p.P = f.p.P := fun f hf x hx hs => by
  obtain ⟨C, hC, hI⟩ := (hM.2.1 x hx).2.1
  obtain ⟨D, hD, -⟩ := (hF.2.1 f hf).2.1
  refine hC.unique hD (fun r hr n => ?_)
  rw [hI r hr n, hs, same f hf r hr n, canon_mem hD r hr n]
 refine plR_unique hM.1 hF.1 (fun x => ?_)
 constructor
 ·intro hx
  obtain ⟨m, hm, rfl⟩ := List.mem_map.1 hx
  obtain ⟨f, hf, hfs⟩ := (hM.2.1 m hm).1
  exact List.mem_map.2 ⟨f, hf, by rw [hfs, eqP f hf m hm hfs.symm]⟩
 ·intro hx
  obtain ⟨f, hf, rfl⟩ := List.mem_map.1 hx
  apply Classical.byContradiction
  intro hn
  have h1 := hM.2.2 f.s ⟨f, hf, rfl⟩ (fun m hm hms => hn (List.mem_map.2 ⟨m, hm, by rw [hms, eqP f hf m hm hms]⟩))
  exact (hF.2.1 f hf).2.2 (fun r hr n hm => h1 r hr n ((same f hf r hr n).2 hm))
theorem fold_wt {R F : List Rc} (hF : FoldOf R F) (s : ByteArray) : wt (ofS F s) ≤ 8796093022207 := by
 have h1 : F.countP (fun r => decide (r.s = s)) ≤ 1 := countP_one (hF.1.imp fun {a b} hab (h : decide (a.s = s) = true ∧ decide (b.s = s) = true) => cmpS_ne hab ((of_decide_eq_true h.1).trans (of_decide_eq_true h.2).symm))
 have h2 : (ofS F s).length ≤ 1 := by
  unfold ofS
  rw [List.length_map, ← List.countP_eq_length_filter]
  exact h1
 have h3 : ∀ p ∈ ofS F s, p.P.cloud.length ≤ 8000000016 := fun p hp => by
  obtain ⟨f, hf, -, rfl⟩ := ofS_mem.1 hp
  obtain ⟨C, hC, -⟩ := (hF.2.1 f hf).2.1
  exact (canon_len hC).1
 match hX : ofS F s with
 | [] => simp [wt]
 | [p] =>
  have := h3 p (by rw [hX]; simp)
  simp only [wt]
  omega
 | _ :: _ :: _ => rw [hX] at h2; simp at h2
end Go.Proofs.YtfpmijfcemopoaaGreat
