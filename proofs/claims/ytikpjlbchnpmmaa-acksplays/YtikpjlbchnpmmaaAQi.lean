/- The four pairs as the law keeps them. -/
import Derived.Test.YtikpjlbchnpmmaaASt
import Derived.Test.YtikpjlbchnpmmaaARh
namespace Go.Proofs.Ytikpjlbchnpmmaa
open Go.RowKit
variable {w w' w0 : World} {g : Nat}

/-- a step -/
structure Sp where
  kind : Int
  t : Int
  a : Int
  b : Int
  c : Int
def sp0 : Sp := ⟨0, 0, 0, 0, 0⟩
def SC (o : Sp) : Array Value := #[.int .i64 o.kind, .int .i64 o.t, .int .i64 o.a, .int .i64 o.b, .int .i64 o.c]
abbrev SV (o : Sp) : Value := .agg (SC o)
/-- the block b is a variable that holds the step -/
def SB (w : World) (b : Nat) (o : Sp) : Prop := w.heap[b]? = some (.cells (SC o) 34 (0, 0))
variable {b : Nat} {o : Sp}
theorem SB.lt (h : SB w b o) : b < w.heap.size := (Array.getElem?_eq_some_iff.1 h).1
theorem SB.below (h : SB w b o) (hb : Below w.heap.size w w') : SB w' b o := (hb.block b h.lt).trans h
theorem SB.on {g' : Nat} (h : SB w b o) (k : Fr w w' g') (hne : b ≠ g') : SB w' b o := (k.block b hne).trans h
theorem SB.c0 (h : SB w b o) : w.cell? ⟨b, 0, none⟩ = some (.int .i64 o.kind) := by unfold SB at h; simp [World.cell?, h, SC]
theorem SB.c2 (h : SB w b o) : w.cell? ⟨b, 2, none⟩ = some (.int .i64 o.a) := by unfold SB at h; simp [World.cell?, h, SC]
theorem SB.c3 (h : SB w b o) : w.cell? ⟨b, 3, none⟩ = some (.int .i64 o.b) := by unfold SB at h; simp [World.cell?, h, SC]
theorem SB.c4 (h : SB w b o) : w.cell? ⟨b, 4, none⟩ = some (.int .i64 o.c) := by unfold SB at h; simp [World.cell?, h, SC]
theorem sb_new (w : World) (o : Sp) : SB (w.alloc (.cells (SC o) 34)) w.heap.size o := by unfold SB; rw [heap_alloc_new]
/-- a pair: its table's block, its numbers, its book -/
structure Qp where
  tb : Nat
  r : Nat
  s : Int
  f : Nat → Int
  bo : Option Addr
  bn : Nat
  bc : Nat
  L : List Rn
def prOf (q : Qp) : Pr := ⟨some ⟨q.tb, 0, none⟩, q.r, q.s, q.bo, q.bn, q.bc⟩
/-- the two say the same -/
structure Inv (q : Qp) : Prop where
  r1 : 1 ≤ q.r
  r16 : q.r ≤ 16
  s0 : 0 ≤ q.s
  s1 : q.s < q.r
  eq : ∀ k : Nat, k < 16 → q.f k = nbr k q.L
  self : ∀ k : Nat, (k : Int) = q.s → q.f k = 0
  bd : ∀ k : Nat, k < 16 → q.f k ≤ 4611686018427387904
structure QAt (w0 w : World) (g : Nat) (q : Qp) (N : Nat) : Prop where
  tab : Tb w q.tb q.r q.s q.f
  src : RSrc w q.bo q.bn q.bc q.L
  len : q.L.length ≤ N
  t0 : w0.heap.size ≤ q.tb
  tg : q.tb ≠ g
  bg : ∀ ad, q.bo = some ad → ad.block ≠ g
  bl : ∀ ad, q.bo = some ad → ad.block < w.heap.size
structure QI (w0 w : World) (g : Nat) (qs : Nat → Qp) (N : Nat) : Prop where
  box : PBox w g (fun k => prOf (qs k))
  each : ∀ k, k < 4 → QAt w0 w g (qs k) N
  tne : ∀ i j, i < 4 → j < 4 → i ≠ j → (qs i).tb ≠ (qs j).tb
  bne : ∀ i j, i < 4 → j < 4 → ∀ ad, (qs i).bo = some ad → ad.block ≠ (qs j).tb
  bel : Below w0.heap.size w0 w
  g0 : w0.heap.size ≤ g
variable {qs : Nat → Qp} {N : Nat}
theorem QI.below (h : QI w0 w g qs N) (hb : Below w.heap.size w w') : QI w0 w' g qs N :=
  ⟨h.box.below hb, fun k hk => ⟨(h.each k hk).tab.below hb, (h.each k hk).src.below hb, (h.each k hk).len, (h.each k hk).t0, (h.each k hk).tg, (h.each k hk).bg, fun ad e => Nat.lt_of_lt_of_le ((h.each k hk).bl ad e) hb.size⟩, h.tne, h.bne, h.bel.trans (hb.mono h.bel.size), h.g0⟩
theorem QI.mono {N' : Nat} (h : QI w0 w g qs N) (hn : N ≤ N') : QI w0 w g qs N' :=
  ⟨h.box, fun k hk => ⟨(h.each k hk).tab, (h.each k hk).src, Nat.le_trans (h.each k hk).len hn, (h.each k hk).t0, (h.each k hk).tg, (h.each k hk).bg, (h.each k hk).bl⟩, h.tne, h.bne, h.bel, h.g0⟩
theorem RSrc.onF {g' : Nat} {ao : Option Addr} {m c : Nat} {L : List Rn} (h : RSrc w ao m c L) (k : Fr w w' g') (hne : ∀ ad, ao = some ad → ad.block ≠ g') : RSrc w' ao m c L := by
  refine ⟨h.len, h.nil, fun ad ha t ht => ?_, h.cap, h.room, h.big⟩
  have A := h.cell ad ha t ht
  have hb := hne ad ha
  exact ⟨by rw [World.cell?_of_block (k.block _ (by rw [block_add]; exact hb))]; exact A.c0, by rw [World.cell?_of_block (k.block _ (by rw [block_add, block_add]; exact hb))]; exact A.c1⟩
def qset (qs : Nat → Qp) (k : Nat) (q : Qp) : Nat → Qp := fun t => if t = k then q else qs t
theorem qset_at (qs : Nat → Qp) (k : Nat) (q : Qp) : qset qs k q k = q := by unfold qset; rw [if_pos rfl]
theorem qset_ne (qs : Nat → Qp) (k : Nat) (q : Qp) {t : Nat} (h : t ≠ k) : qset qs k q t = qs t := by unfold qset; rw [if_neg h]
/-- the table of one pair has changed -/
theorem QI.onTab (h : QI w0 w g qs N) {k : Nat} (hk : k < 4) {f' : Nat → Int} (T : Tb w' (qs k).tb (qs k).r (qs k).s f') (F : Fr w w' (qs k).tb) : QI w0 w' g (qset qs k { qs k with f := f' }) N := by
  have hq : ∀ j, (qset qs k { qs k with f := f' } j).tb = (qs j).tb ∧ (qset qs k { qs k with f := f' } j).bo = (qs j).bo ∧ prOf (qset qs k { qs k with f := f' } j) = prOf (qs j) := fun j => by
    by_cases e : j = k
    · subst e; rw [qset_at]; exact ⟨rfl, rfl, rfl⟩
    · rw [qset_ne _ _ _ e]; exact ⟨rfl, rfl, rfl⟩
  refine ⟨(h.box.on F (h.each k hk).tg.symm).congr (fun j _ => (hq j).2.2.symm), fun j hj => ?_, fun i j hi hj hn => ?_, fun i j hi hj ad ha => ?_, F.below h.bel (h.each k hk).t0, h.g0⟩
  · have E := h.each j hj
    have S := E.src.onF F (fun ad ha => h.bne j k hj hk ad ha)
    by_cases e : j = k
    · subst e; rw [qset_at]; exact ⟨T, S, E.len, E.t0, E.tg, E.bg, fun ad e => by rw [F.size]; exact E.bl ad e⟩
    · rw [qset_ne _ _ _ e]; exact ⟨E.tab.on F (h.tne j k hj hk e), S, E.len, E.t0, E.tg, E.bg, fun ad e => by rw [F.size]; exact E.bl ad e⟩
  · rw [(hq i).1, (hq j).1]; exact h.tne i j hi hj hn
  · rw [(hq i).2.1] at ha; rw [(hq j).1]; exact h.bne i j hi hj ad ha
/-- the pair's block has changed: another table or another book -/
theorem QI.onPair (h : QI w0 w g qs N) {k : Nat} (hk : k < 4) (q : Qp) (P : PBox w' g (pset (fun k => prOf (qs k)) k (prOf q))) (F : Fr w w' g) {N' : Nat} (hN : N ≤ N')
    (T : Tb w q.tb q.r q.s q.f) (S : RSrc w q.bo q.bn q.bc q.L) (hl : q.L.length ≤ N') (h0 : w0.heap.size ≤ q.tb) (hg : q.tb ≠ g) (hbg : ∀ ad, q.bo = some ad → ad.block ≠ g) (hbl : ∀ ad, q.bo = some ad → ad.block < w.heap.size)
    (ht : ∀ j, j < 4 → j ≠ k → q.tb ≠ (qs j).tb) (hb1 : ∀ ad, q.bo = some ad → ad.block ≠ q.tb ∧ ∀ j, j < 4 → j ≠ k → ad.block ≠ (qs j).tb) (hb2 : ∀ j, j < 4 → j ≠ k → ∀ ad, (qs j).bo = some ad → ad.block ≠ q.tb) : QI w0 w' g (qset qs k q) N' := by
  refine ⟨P.congr (fun j _ => ?_), fun j hj => ?_, fun i j hi hj hn => ?_, fun i j hi hj ad ha => ?_, F.below h.bel h.g0, h.g0⟩
  · unfold pset qset; split <;> rfl
  · by_cases e : j = k
    · subst e; rw [qset_at]; exact ⟨T.on F hg, S.onF F hbg, hl, h0, hg, hbg, fun ad e => by rw [F.size]; exact hbl ad e⟩
    · rw [qset_ne _ _ _ e]
      have E := h.each j hj
      exact ⟨E.tab.on F E.tg, E.src.onF F E.bg, Nat.le_trans E.len hN, E.t0, E.tg, E.bg, fun ad e => by rw [F.size]; exact E.bl ad e⟩
  · by_cases e : i = k
    · subst e
      rw [qset_at, qset_ne _ _ _ (Ne.symm hn)]; exact ht j hj (Ne.symm hn)
    · by_cases e2 : j = k
      · subst e2
        rw [qset_at, qset_ne _ _ _ e]; exact (ht i hi e).symm
      · rw [qset_ne _ _ _ e, qset_ne _ _ _ e2]; exact h.tne i j hi hj hn
  · by_cases e : i = k
    · subst e
      rw [qset_at] at ha
      by_cases e2 : j = i
      · subst e2; rw [qset_at]; exact (hb1 ad ha).1
      · rw [qset_ne _ _ _ e2]; exact (hb1 ad ha).2 j hj e2
    · rw [qset_ne _ _ _ e] at ha
      by_cases e2 : j = k
      · subst e2; rw [qset_at]; exact hb2 i hi e ad ha
      · rw [qset_ne _ _ _ e2]; exact h.bne i j hi hj ad ha
/-- all four say the same -/
def InvA (qs : Nat → Qp) : Prop := ∀ k, k < 4 → Inv (qs k)
theorem InvA.set (h : InvA qs) {k : Nat} {q : Qp} (hq : Inv q) : InvA (qset qs k q) := fun j hj => by
  by_cases e : j = k
  · subst e; rw [qset_at]; exact hq
  · rw [qset_ne _ _ _ e]; exact h j hj
/-- what is heard goes into both -/
theorem Inv.heard {q : Qp} (h : Inv q) (p hi : Int) (he : heardE q.r q.s p hi = 0) (bo : Option Addr) (bn bc : Nat) : Inv { q with f := heardF q.r q.s q.f p hi, bo := bo, bn := bn, bc := bc, L := q.L ++ [⟨p, hi⟩] } := by
  have hp : peerE q.r q.s p = 0 := by
    unfold heardE at he
    by_cases x : peerE q.r q.s p = 0
    · exact x
    · rw [if_neg x] at he; exact absurd he x
  have hh : 0 ≤ hi ∧ hi ≤ 4611686018427387904 := by
    unfold heardE at he
    rw [if_pos hp] at he
    split at he <;> omega
  obtain ⟨p0, p1, p2⟩ := peer_zero hp
  have hF : heardF q.r q.s q.f p hi = fset q.f p.toNat (max (q.f p.toNat) hi) := by unfold heardF; rw [if_pos he]
  refine ⟨h.r1, h.r16, h.s0, h.s1, fun k hk => ?_, fun k hk => ?_, fun k hk => ?_⟩
  · show heardF q.r q.s q.f p hi k = nbr k (q.L ++ [⟨p, hi⟩])
    rw [hF, nbr_snoc]
    unfold fset
    by_cases e : k = p.toNat
    · rw [if_pos e, ← e, h.eq k hk]
      have ek : p = (k : Int) := by omega
      simp only [ek, true_and]
      split <;> omega
    · rw [if_neg e, h.eq k hk, if_neg (fun x => e (by have hx : p = (k : Int) := x.1; omega))]
  · show heardF q.r q.s q.f p hi k = 0
    rw [hF]
    unfold fset
    have hk' : (k : Int) = q.s := hk
    rw [if_neg (by omega)]
    exact h.self k hk'
  · show heardF q.r q.s q.f p hi k ≤ _
    rw [hF]
    unfold fset
    split
    · have := h.bd p.toNat (by have := h.r16; omega); omega
    · exact h.bd k hk
theorem Inv.reset {q : Qp} (h : Inv q) : Inv { q with f := fun _ => 0, bo := none, bn := 0, bc := 0, L := [] } :=
  ⟨h.r1, h.r16, h.s0, h.s1, fun _ _ => rfl, fun _ _ => rfl, fun _ _ => by show (0 : Int) ≤ _; omega⟩
theorem inv_new (tb : Nat) (a : Nat) (b : Int) (h1 : 1 ≤ a) (h2 : a ≤ 16) (h3 : 0 ≤ b) (h4 : b < a) : Inv ⟨tb, a, b, fun _ => 0, none, 0, 0, []⟩ :=
  ⟨h1, h2, h3, h4, fun _ _ => rfl, fun _ _ => rfl, fun _ _ => by show (0 : Int) ≤ _; omega⟩
/-- T&3 -/
theorem and3 (x : Int) : ∃ k : Nat, k < 4 ∧ bits .and .i64 x 3 = (k : Int) := by
  have h : (BitVec.ofInt 64 x &&& BitVec.ofInt 64 3).toNat ≤ 3 := by
    rw [BitVec.toNat_and]
    exact Nat.and_le_right
  refine ⟨(BitVec.ofInt 64 x &&& BitVec.ofInt 64 3).toNat, by omega, ?_⟩
  show IntKind.i64.wrap ((BitVec.ofInt 64 x &&& BitVec.ofInt 64 3).toNat : Int) = _
  rw [IntKind.wrap_i64]
  omega
end Go.Proofs.Ytikpjlbchnpmmaa
