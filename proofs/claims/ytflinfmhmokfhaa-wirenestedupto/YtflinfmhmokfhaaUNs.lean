/- WireNested: the inner Read, whole. -/
import Derived.Test.YtflinfmhmokfhaaUNr
namespace Go.Proofs.Ytflinfmhmokfhaa
open Go.RowKit
variable {wO w0 w w' w1 w2 : World} {nO n g q gin o gg gn gr : Nat} {bz1 bz2 : Option Nat} {roc ro2 so so1 so2 lo2 : Option Addr} {rnc rcc rn2 rc2 sn sc sn1 sc1 sn2 sc2 ln2 lc2 : Nat} {Z Zc Z2 : List Int} {G0 : List Got} {P1 P2 P : List Ask}

theorem EndU.uniq {e : Ending} {a b x y : Int} (h : EndU w g e a x) (k : EndU w g e b y) : x = y := by
  cases h with
  | calm R =>
    generalize hx : Ending.returned (.tuple #[]) = z at k
    cases k with
    | calm R2 => rw [(rdr_inj R R2).1]
    | up l hl R2 _ => cases hx
    | boom R2 => cases hx
  | up l hl R he =>
    generalize hx : Ending.panicked (upL g false l) = z at k
    cases k with
    | calm R2 => cases hx
    | up l hl R2 _ => exact (rdr_inj R R2).2
    | boom R2 => simp [upL, upV, bmE, bmV] at hx
  | @boom so sn sc v R =>
    generalize hx : Ending.panicked (bmE v false) = z at k
    cases k with
    | calm R2 => cases hx
    | up l hl R2 _ => simp [upL, upV, bmE, bmV] at hx
    | boom R2 => rfl
theorem EndU.no {a x : Int} (h : EndU w g (.panicked (ups o)) a x) (hn : o ≠ g) : False := by
  generalize hx : Ending.panicked (ups o) = z at h
  cases h with
  | calm R2 => cases hx
  | up l hl R2 _ =>
    simp [upL, ups, upV] at hx <;> exact hn hx.1
  | boom R2 => simp [ups, upV, bmE, bmV] at hx
theorem ups_inj {a b : Nat} (h : (Ending.panicked (ups a)) = .panicked (ups b)) : a = b := by
  simp [ups, upV] at h
  exact h
/-- nothing but the reader and its error was written -/
structure Fk (w2 w' : World) (n : Nat) : Prop where
  os : w'.os = w2.os
  tape : w'.tape = w2.tape
  output : w'.output = w2.output
  size : w2.heap.size ≤ w'.heap.size
  block : ∀ k, k < w2.heap.size → k ≠ n + 1 → k ≠ n → w'.heap[k]? = w2.heap[k]?
theorem Fin.fk {gave err : Int} (h : Fin w2 w' (n + 1) n gave err) : Fk w2 w' n := ⟨h.os, h.tape, h.output, h.size, h.block⟩
theorem Ended.fk (h : Ended w2 w' (n + 1) 0) : Fk w2 w' n := ⟨h.2.os, h.2.tape, h.2.output, h.2.size, fun k hk h1 _ => h.2.block k hk h1⟩
/-- the rows, where the reader's own blocks are n, n + 1, n + 2 -/
def NRn (nO n : Nat) (w' : World) (gin gg : Nat) (I G : List Got) : Prop :=
  ∃ li ni ci lg ng cg, Var w' gin (.slice li ni ci) 24 ∧ GR w' li ni ci I ∧ Var w' gg (.slice lg ng cg) 24 ∧ GR w' lg ng cg G ∧ (∀ k, blk li = some k → n + 3 ≤ k ∧ blk lg ≠ some k) ∧ ∀ k, blk lg = some k → nO ≤ k ∧ k ≠ n ∧ k ≠ n + 1
theorem NRn.fk {I G : List Got} (h : NRn nO n w2 gin gg I G) (F : Fk w2 w' n) (hn : nO ≤ n) (h1 : gin < nO) (h2 : gg < nO) : NR nO w' gin gg I G := by
  obtain ⟨li, ni, ci, lg, ng, cg, a, b, c, d, e, f⟩ := h
  exact ⟨li, ni, ci, lg, ng, cg, (F.block _ a.lt (by omega) (by omega)).trans a, b.keep (fun k x => F.block k (b.lt k x) (by have := (e k x).1; omega) (by have := (e k x).1; omega)), (F.block _ c.lt (by omega) (by omega)).trans c, d.keep (fun k x => F.block k (d.lt k x) (f k x).2.2 (f k x).2.1), fun k x => ⟨by have := (e k x).1; omega, (e k x).2⟩, fun k x => (f k x).1⟩
/-- how the inner closure ends, told for Read -/
def SM (nO n : Nat) (W1 : World) (lo2 : Option Addr) (o gg gin : Nat) (P1 P2 : List Ask) (Zc Z2 : List Int) (G0 : List Got) (e : Ending) (w2 : World) : Prop :=
  (w2.os = W1.os ∧ w2.tape = W1.tape ∧ w2.output = W1.output ∧ W1.heap.size ≤ w2.heap.size ∧ ∀ k, k < n + 3 → k ≠ n + 1 → k ≠ o → k ≠ gg → k ≠ gin → blk lo2 ≠ some k → w2.heap[k]? = W1.heap[k]?) ∧
    (((rdT P1 Zc).2.1 ≠ 0 ∧ NRn nO n w2 gin gg (rdT P1 Zc).1 G0 ∧ (∃ so sc, Rdr w2 o so Z2.length sc 0 false) ∧ ∃ gave, EndU w2 (n + 1) e gave (rdT P1 Zc).2.1) ∨
      ((rdT P1 Zc).2.1 = 0 ∧ NRn nO n w2 gin gg (rdT P1 Zc).1 (G0 ++ (rdT (calm P2) Z2).1) ∧
        (((rdT (calm P2) Z2).2.1 = 0 ∧ (∃ so sc, Rdr w2 o so (rdT (calm P2) Z2).2.2.length sc 0 false) ∧ ∃ gave, EndU w2 (n + 1) e gave (if (calm P2).length < P2.length then 8 else endA (rdT P1 Zc).2.2.length)) ∨
          ((rdT (calm P2) Z2).2.1 ≠ 0 ∧ Rdr w2 o none 0 0 (rdT (calm P2) Z2).2.1 false ∧ EndO w2 (n + 1) e ∧ e = .panicked (ups o)))))
theorem sm_of {W1 : World} {e : Ending} (h2 : CJ (PO nO) wO w o gg bz2 ro2 rn2 rc2 Z2 lo2 ln2 lc2 G0) (hb : nO ≤ n) (hw : w.heap.size = n) (hz : W1.heap.size = n + 3) (B : Below n w W1) (hi : gin < nO ∧ gin ≠ o ∧ gin ≠ gg)
    (h : IP W1 (n + 1) gin o gg bz1 bz2 P1 P2 Zc Z2 G0 lo2 e w2) : SM nO n W1 lo2 o gg gin P1 P2 Zc Z2 G0 e w2 := by
  obtain ⟨p1, p2, p3⟩ := h2.pos
  have p1' : o < nO := p1
  have p2' : gg < nO := p2
  obtain ⟨i1, i2, i3⟩ := hi
  have hlo : ∀ k, blk lo2 = some k → nO ≤ k ∧ k < n := fun k x => ⟨by have := h2.ge k x; unfold PO at this; omega, by have := h2.gr.lt k x; omega⟩
  have lenZ : Z2.length = rn2 := h2.rl.len
  rcases h with ⟨K, ⟨li, ni, ci, vi, gi, ge⟩, he⟩ | ⟨wm, ⟨ec, e0, rom, rcm, li, ni, ci, hJ⟩, hB⟩
  · have hge : ∀ k, blk li = some k → n + 3 ≤ k := fun k x => by have := ge k x; unfold PA at this; omega
    have kp : ∀ k, k < n + 3 → k ≠ n + 1 → k ≠ gin → w2.heap[k]? = W1.heap[k]? := fun k h1 h2 h3 => K.block k (by unfold PA; omega) h2 h3
    have Ro : Rdr w2 o ro2 rn2 rc2 0 false := (kp o (by omega) (by omega) (Ne.symm i2)).trans ((B.block o (by omega)).trans h2.rl.r)
    have Vg : Var w2 gg (.slice lo2 ln2 lc2) 24 := (kp gg (by omega) (by omega) (Ne.symm i3)).trans ((B.block gg (by omega)).trans h2.v2)
    have Gg : GR w2 lo2 ln2 lc2 G0 := h2.gr.keep (fun k x => by have := hlo k x; exact (kp k (by omega) (by omega) (by omega)).trans (B.block k (by omega)))
    obtain ⟨c1, c2, c3, c4⟩ := rdT_calm P1 Zc
    rw [List.nil_append, ← c1] at gi
    have hNR : NRn nO n w2 gin gg (rdT P1 Zc).1 G0 := ⟨li, ni, ci, lo2, ln2, lc2, vi, gi, Vg, Gg, fun k x => ⟨hge k x, fun y => by have := hge k x; have := hlo k y; omega⟩, fun k x => by have := hlo k x; exact ⟨this.1, by omega, by omega⟩⟩
    refine ⟨⟨K.os, K.tape, K.output, K.size, fun k h1 h2 _ _ h3 _ => kp k h1 h2 h3⟩, Or.inl ?_⟩
    rcases he with ⟨rfl, hne, hR⟩ | ⟨⟨v, rfl⟩, h0, hlt, so, sc, hR⟩
    · have := c2 hne
      rw [this]
      exact ⟨hne, hNR, ⟨_, _, by rw [lenZ]; exact Ro⟩, _, EndU.up [] (Or.inl rfl) hR hne⟩
    · have := c3 h0
      rw [if_pos hlt] at this
      rw [this]
      exact ⟨by decide, hNR, ⟨_, _, by rw [lenZ]; exact Ro⟩, _, EndU.boom hR⟩
  · have hge : ∀ k, blk li = some k → n + 3 ≤ k := fun k x => by have := hJ.ge k x; unfold PA at this; omega
    have K1 := hJ.kl
    have kp : ∀ k, k < n + 3 → k ≠ n + 1 → k ≠ gin → wm.heap[k]? = W1.heap[k]? := fun k h1 h2 h3 => K1.block k (by unfold PA; omega) h2 h3
    have hs1 := K1.size
    have px : ∀ k, k < n + 3 → blk lo2 ≠ some k → PX wm lo2 k := fun k h1 h2 => ⟨by omega, h2⟩
    have nlo : ∀ k, (k < nO ∨ n ≤ k) → blk lo2 ≠ some k := fun k h1 x => by have := hlo k x; omega
    have inr : ∀ k, blk li = some k → PX wm lo2 k := fun k x => ⟨hJ.gr.lt k x, fun y => by have := hge k x; have := hlo k y; omega⟩
    have key : ∀ {wz : World} {lg : Option Addr} {ng cg : Nat} {X : List Got}, Kj (PX wm lo2) wm wz o gg → Var wz gg (.slice lg ng cg) 24 → GR wz lg ng cg X → (∀ k, blk lg = some k → ¬ PX wm lo2 k) →
        (wz.os = W1.os ∧ wz.tape = W1.tape ∧ wz.output = W1.output ∧ W1.heap.size ≤ wz.heap.size ∧ ∀ k, k < n + 3 → k ≠ n + 1 → k ≠ o → k ≠ gg → k ≠ gin → blk lo2 ≠ some k → wz.heap[k]? = W1.heap[k]?) ∧ NRn nO n wz gin gg (rdT P1 Zc).1 X ∧ Rdr wz (n + 1) rom (rdT P1 Zc).2.2.length rcm 0 false := by
      intro wz lg ng cg X K2 Vg Gg hg
      have hgr := hJ.gr
      rw [List.nil_append] at hgr
      refine ⟨⟨K2.os.trans K1.os, K2.tape.trans K1.tape, K2.output.trans K1.output, Nat.le_trans K1.size K2.size, fun k a1 a2 a3 a4 a5 a6 => (K2.block k (px k a1 a6) a3 a4).trans (kp k a1 a2 a5)⟩, ⟨li, ni, ci, lg, ng, cg, (K2.block gin (px gin (by omega) (nlo gin (Or.inl i1))) i2 i3).trans hJ.v2, hgr.keep (fun k x => K2.block k (inr k x) (by have := hge k x; omega) (by have := hge k x; omega)), Vg, Gg, fun k x => ⟨hge k x, fun y => hg k y (inr k x)⟩, fun k x => ?_⟩, (K2.block (n + 1) (px _ (by omega) (nlo _ (Or.inr (by omega)))) (by omega) (by omega)).trans hJ.rl.r⟩
      have hk := hg k x
      by_cases hl : blk lo2 = some k
      · have := hlo k hl
        exact ⟨this.1, by omega, by omega⟩
      · have : ¬ k < wm.heap.size := fun y => hk ⟨y, hl⟩
        exact ⟨by omega, by omega, by omega⟩
    rcases hB with ⟨K2, ⟨lg, ng, cg, Vg, Gg, hg⟩, he⟩ | ⟨rfl, ec2, e02, ro3, rc3, lg, ng, cg, hJ2⟩
    · obtain ⟨k1, k2, k3⟩ := key K2 Vg Gg hg
      refine ⟨k1, Or.inr ⟨e0, k2, ?_⟩⟩
      rcases he with ⟨rfl, hne, hR⟩ | ⟨⟨v, rfl⟩, h0, hlt, so, sc, hR⟩
      · exact Or.inr ⟨hne, hR, ⟨_, _, _, o, _, k3, hR, by omega, rfl⟩, rfl⟩
      · rw [if_pos hlt]
        exact Or.inl ⟨h0, ⟨_, _, hR⟩, _, EndU.boom k3⟩
    · obtain ⟨k1, k2, k3⟩ := key hJ2.kl hJ2.v2 hJ2.gr hJ2.ge
      unfold SM
      rw [ec2]
      refine ⟨k1, Or.inr ⟨e0, k2, Or.inl ⟨e02, ⟨_, _, hJ2.rl.r⟩, ?_⟩⟩⟩
      rw [if_neg (Nat.lt_irrefl _)]
      exact ⟨_, EndU.calm k3⟩
set_option maxRecDepth 100000 in
theorem nest_any (w : World) (h2 : CJ (PO nO) wO w o gg bz2 ro2 rn2 rc2 Z2 lo2 ln2 lc2 G0) (hT1 : TN (PO nO) w o gg gn 3 gr o so1 sn1 sc1 P1) (hT2 : TN (PO nO) w o gg gn 4 gr o so2 sn2 sc2 P2) (Vi : Var w gin (.slice none 0 0) 24)
    (hi : gin < nO ∧ gin ≠ o ∧ gin ≠ gg ∧ gin ≠ gn ∧ gin ≠ gr) (hf1 : sn1 ≠ 0 → ∀ k, blk so1 = some k → k ≠ gin) (hf2 : sn2 ≠ 0 → ∀ k, blk so2 = some k → k ≠ gin) (hz2 : rn2 ≠ 0 → ∀ k, bz2 = some k → k ≠ gin) (hb : nO ≤ w.heap.size) (hl : ln2 ≤ 4000000)
    (S : Src w roc rnc rcc Zc) (hc : rnc ≤ rcc) (hn : rnc ≤ 140737488355328) (hs : rnc ≠ 0 → ∀ k, blk roc = some k → k ≠ gin) :
    Calls Try.prog 6 #[.slice roc rnc rcc, .func (.func 20) #[] #[ptr gn, ptr gin, ptr gg, ptr gr]] w fun r w' => NP nO w o gg gin P1 P2 Zc Z2 G0 r w' := by
  have hcf : ∀ (args : Array Value) (w : World), (callFunc 20 args).run Try.prog w = .ok (.enter 20 args) w := fun _ _ => rfl
  obtain ⟨i1, i2, i3, i4, i5⟩ := hi
  obtain ⟨p1, p2, p3⟩ := h2.pos
  have p1' : o < nO := p1
  have p2' : gg < nO := p2
  have t1' : gn < nO := hT1.pos.1
  have t2' : gr < nO := hT1.pos.2.2.2.1
  have G1 := beg w roc rnc rcc
  obtain ⟨W1, hW1⟩ : ∃ W1, W0 w roc rnc rcc = W1 := ⟨_, rfl⟩
  obtain ⟨n, hw⟩ : ∃ n, w.heap.size = n := ⟨_, rfl⟩
  rw [hW1] at G1
  have hz := G1.n.2
  have g1 := G1.e
  have g2 := G1.r
  have g3 := G1.v
  have B := G1.b
  rw [hw] at hz g1 g2 g3 B hb
  have hlo : ∀ k, blk lo2 = some k → nO ≤ k ∧ k < n := fun k x => ⟨by have := h2.ge k x; unfold PO at this; omega, by have := h2.gr.lt k x; omega⟩
  have hf : Calls Try.prog 20 #[ptr (n + 1), ptr gn, ptr gin, ptr gg, ptr gr] W1 fun r w' => IP W1 (n + 1) gin o gg (blk roc) bz2 P1 P2 Zc Z2 G0 lo2 r w' := by
    refine inner_any (roc := roc) (rnc := rnc) (rcc := rcc) (ro2 := ro2) (rn2 := rn2) (rc2 := rc2) (ln2 := ln2) (lc2 := lc2) (so1 := so1) (sn1 := sn1) (sc1 := sc1) (so2 := so2) (sn2 := sn2) (sc2 := sc2) ?_ ?_ ?_ hl hT2.qs.len
    · exact hT1.carry (fun k hk _ => B.block k (by omega)) ⟨Ne.symm i4, Ne.symm i5⟩ hf1 (fun k hk => by unfold PA; omega) ⟨by omega, Ne.symm i4, by omega, Ne.symm i5⟩ (fun h0 k e => ⟨by have : k < nO := (hT1.far h0 k e).1; omega, hf1 h0 k e⟩)
    · exact ⟨⟨g2, S.below (hw ▸ B), hc, hn, fun h0 e => by have := src_lt S h0 _ e; omega⟩, (B.block _ (by omega)).trans Vi, GR.nil _, (fun k e => by cases e), ⟨rfl, rfl, rfl, Nat.le_refl _, fun _ _ _ _ => rfl⟩, rfl, ⟨by unfold PA; omega, by unfold PA; omega, by omega⟩, fun k hk => hk, fun h0 k e => ⟨by have := src_lt S h0 k e; unfold PA; omega, hs h0 k e, by have := src_lt S h0 k e; omega⟩⟩
    · intro w1 K
      have hs1 := K.size
      have hk : ∀ k, k < nO → k ≠ gin → w1.heap[k]? = w.heap[k]? := fun k h1 h2 => (K.block k (by unfold PA; omega) (by omega) h2).trans (B.block k (by omega))
      have hp : ∀ k, k < nO → PX w1 lo2 k := fun k h1 => ⟨by omega, fun x => by have := hlo k x; omega⟩
      refine ⟨h2.carry hk ⟨Ne.symm i2, Ne.symm i3⟩ hz2 (fun k x => ?_) hp (fun k x y => y.2 x) (fun k y => y.1), ?_⟩
      · have := hlo k x
        exact (K.block k (by unfold PA; omega) (by omega) (by omega)).trans (B.block k (by omega))
      · obtain ⟨-, q2, q3, -, q5, q6⟩ := hT2.pos
        exact hT2.carry hk ⟨Ne.symm i4, Ne.symm i5⟩ hf2 hp ⟨q2, q3, q5, q6⟩ (fun h0 k e => (hT2.far h0 k e).2)
  refine (readU_any roc rnc rcc 20 #[ptr gn, ptr gin, ptr gg, ptr gr] (fun r w' => IP W1 (n + 1) gin o gg (blk roc) bz2 P1 P2 Zc Z2 G0 lo2 r w') w hcf (by rw [hW1, hw]; exact hf) (by
    intro e w4 h
    obtain ⟨⟨-, -, -, -, kb⟩, hh⟩ := sm_of h2 hb hw hz B ⟨i1, i2, i3⟩ h
    have nlo : ∀ k, n ≤ k → blk lo2 ≠ some k := fun k h1 x => by have := hlo k x; omega
    rw [hw]
    refine ⟨?_, (kb _ (by omega) (by omega) (by omega) (by omega) (by omega) (nlo _ (by omega))).trans g3, (kb _ (by omega) (by omega) (by omega) (by omega) (by omega) (nlo _ (by omega))).trans g1⟩
    rcases hh with ⟨-, -, -, gave, hE⟩ | ⟨-, -, ⟨-, -, gave, hE⟩ | ⟨-, -, hO, -⟩⟩
    · exact Or.inl ⟨_, _, hE⟩
    · exact Or.inl ⟨_, _, hE⟩
    · exact Or.inr hO)).mono ?_
  intro r wz h
  rw [hw] at h
  obtain ⟨e2, w4, h, hh⟩ := h
  have hS := sm_of h2 hb hw hz B ⟨i1, i2, i3⟩ h
  have hF : Fk w4 wz n := by
    rcases hh with ⟨_, _, _, _, hF⟩ | ⟨_, _, _, _, hF⟩
    · exact hF.fk
    · exact hF.fk
  obtain ⟨⟨k1, k2, k3, k4, kb⟩, hm⟩ := hS
  have hro : ∀ {so : Option Addr} {sn sc : Nat} {x : Int}, Rdr w4 o so sn sc x false → Rdr wz o so sn sc x false := fun R => (hF.block o R.lt (by omega) (by omega)).trans R
  have hs4 := hF.size
  refine ⟨⟨hF.os.trans (k1.trans B.os), hF.tape.trans (k2.trans B.tape), hF.output.trans (k3.trans B.output), by omega, fun k a1 a2 a3 a4 => (hF.block k (by omega) (by omega) (by omega)).trans ((kb k (by omega) (by omega) a2 a3 a4 (fun x => by have := hlo k x; omega)).trans (B.block k (by omega)))⟩, ?_⟩
  rcases hm with ⟨m1, m2, ⟨so, sc, m3⟩, gave, m4⟩ | ⟨m1, m2, ⟨m3, ⟨so, sc, m4⟩, gave, m5⟩ | ⟨m3, m4, m5, rfl⟩⟩
  · rcases hh with ⟨_, err, hE, rfl, -⟩ | ⟨⟨_, _, _, o', _, _, _, hn', rfl⟩, _⟩
    · exact Or.inl ⟨m1, by rw [hE.uniq m4], m2.fk hF hb i1 p2', so, sc, hro m3⟩
    · exact (m4.no hn').elim
  · rcases hh with ⟨_, err, hE, rfl, -⟩ | ⟨⟨_, _, _, o', _, _, _, hn', rfl⟩, _⟩
    · exact Or.inr ⟨m1, m2.fk hF hb i1 p2', Or.inl ⟨m3, by rw [hE.uniq m5], so, sc, hro m4⟩⟩
    · exact (m5.no hn').elim
  · rcases hh with ⟨_, err, hE, rfl, -⟩ | ⟨-, o', ho, rfl, -⟩
    · exact (hE.no (by omega)).elim
    · have := ups_inj ho
      subst this
      exact Or.inr ⟨m1, m2.fk hF hb i1 p2', Or.inr ⟨m3, rfl, hro m4⟩⟩
end Go.Proofs.Ytflinfmhmokfhaa
