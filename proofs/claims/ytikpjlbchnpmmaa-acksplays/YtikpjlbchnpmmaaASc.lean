/- A script in memory; the pairs at the beginning. -/
import Derived.Test.YtikpjlbchnpmmaaAQi
namespace Go.Proofs.Ytikpjlbchnpmmaa
open Go.RowKit
variable {w w' w0 : World} {g : Nat}

theorem SC_size (o : Sp) : (SC o).size = 5 := rfl
structure SpAt (w : World) (p : Addr) (o : Sp) : Prop where
  c0 : w.cell? p = some (.int .i64 o.kind)
  c1 : w.cell? (p.add 1) = some (.int .i64 o.t)
  c2 : w.cell? (p.add 2) = some (.int .i64 o.a)
  c3 : w.cell? (p.add 3) = some (.int .i64 o.b)
  c4 : w.cell? (p.add 4) = some (.int .i64 o.c)
theorem SpAt.on {p : Addr} {r : Sp} (S : SpAt w p r) (hb : Below w.heap.size w w') : SpAt w' p r := by
  have h0 := World.block_lt_of_cell? _ _ S.c0
  exact ⟨by rw [hb.cell h0]; exact S.c0, by rw [hb.cell (by rw [block_add]; exact h0)]; exact S.c1, by rw [hb.cell (by rw [block_add]; exact h0)]; exact S.c2, by rw [hb.cell (by rw [block_add]; exact h0)]; exact S.c3, by rw [hb.cell (by rw [block_add]; exact h0)]; exact S.c4⟩
def ldS (v : Value) : Sem Value := Instr.loadAt 34 v
theorem ldS_eq (v : Value) : Instr.loadAt 34 v = ldS v := rfl
theorem sizeS : (Try.prog.info? 34).map (·.size) = some 5 := by kernel_rfl
theorem run_ldS {p : Addr} {r : Sp} (A : SpAt w p r) : (ldS (.pointer (some p))).run Try.prog w = .ok (SV r) w := by
  have hl := run_loadCells_list (P := Try.prog) (w := w) p (SC r).toList (fun j v hv => by
    match j, hv with
    | 0, hv => cases hv; rw [add_zero]; exact A.c0
    | 1, hv => cases hv; exact A.c1
    | 2, hv => cases hv; exact A.c2
    | 3, hv => cases hv; exact A.c3
    | 4, hv => cases hv; exact A.c4
    | j + 5, hv => simp [SC] at hv)
  unfold ldS
  simp only [Instr.loadAt, Instr.sureAddr, Sem.run_bind, Sem.run_pure, Result.andThen]
  cases hq : Try.prog.info? 34 with
  | none => have := sizeS; simp [hq] at this
  | some x =>
    have hs : x.size = 5 := by have := sizeS; simpa [hq] using this
    have hagg : (isAgg 34).run Try.prog w = .ok true w := by
      unfold isAgg
      rw [Sem.run_bind, run_underlying Try.underlying34 w]
      rfl
    have e2 : (SC r).toList.length = 5 := rfl
    rw [e2] at hl
    simp [loadVar, Sem.run_bind, hagg, sizeOf, typeInfo, hq, hs, hl, SV]
structure SSrc (w : World) (ao : Option Addr) (m c : Nat) (L : List Sp) : Prop where
  len : L.length = m
  nil : ao = none → m = 0 ∧ c = 0
  cell : ∀ ad, ao = some ad → ∀ t, t < m → SpAt w (ad.add (t * 5)) (L.getD t sp0)
  big : m ≤ 3518437208883
theorem SSrc.below {ao : Option Addr} {m c : Nat} {L : List Sp} (h : SSrc w ao m c L) (hb : Below w.heap.size w w') : SSrc w' ao m c L :=
  ⟨h.len, h.nil, fun ad ha t ht => (h.cell ad ha t ht).on hb, h.big⟩
theorem SSrc.at {ao : Option Addr} {m c : Nat} {L : List Sp} (h : SSrc w ao m c L) (k : Nat) (hk : k < m) : ∃ bb oo, ao = some ⟨bb, oo, none⟩ ∧ SpAt w ⟨bb, oo + k * 5, none⟩ (L.getD k sp0) := by
  cases ao with
  | none => have := h.nil rfl; omega
  | some ad =>
    have := World.cell?_spot (h.cell ad rfl 0 (by omega)).c0
    obtain ⟨bb, oo, s⟩ := ad
    have hs : s = none := by simpa [Addr.add] using this
    subst hs
    have A := h.cell _ rfl k hk
    rw [Addr.add_lit] at A
    exact ⟨bb, oo, rfl, A⟩
/-- the pairs at the beginning -/
def qs0 (G q c : Nat) : Nat → Qp := fun t => if t = 0 then ⟨G, 3, 1, fset (fun _ => 0) 0 4, some ⟨q, 0, none⟩, 1, c, [⟨0, 4⟩]⟩ else ⟨G + t, 3, 1, fun _ => 0, none, 0, 0, []⟩
theorem qs0_inv (G q c : Nat) : InvA (qs0 G q c) := fun k _ => by
  unfold qs0
  by_cases h : k = 0
  · rw [if_pos h]
    refine ⟨by show 1 ≤ 3; omega, by show 3 ≤ 16; omega, by show (0 : Int) ≤ 1; omega, by show (1 : Int) < 3; omega, fun j hj => ?_, fun j hj => ?_, fun j hj => ?_⟩
    · show fset (fun _ => 0) 0 4 j = nbr j [⟨0, 4⟩]
      unfold fset nbr
      by_cases e : j = 0
      · subst e; rfl
      · rw [if_neg e]
        show (0 : Int) = if (0 : Int) = (j : Int) ∧ (0 : Int) < 4 then 4 else 0
        rw [if_neg (by omega)]
    · show fset (fun _ => 0) 0 4 j = 0
      unfold fset
      have : (j : Int) = 1 := hj
      rw [if_neg (by omega)]
    · show fset (fun _ => 0) 0 4 j ≤ _
      unfold fset
      by_cases e : j = 0
      · rw [if_pos e]; omega
      · rw [if_neg e]; show (0 : Int) ≤ _; omega
  · rw [if_neg h]
    exact inv_new (G + k) 3 1 (by omega) (by omega) (by omega) (by omega)
theorem qs0_tb (G q c k : Nat) : (qs0 G q c k).tb = G + k := by
  unfold qs0; split
  · rename_i h; subst h; rfl
  · rfl
theorem qs0_bo (G q c k : Nat) : ∀ ad, (qs0 G q c k).bo = some ad → ad.block = q := fun ad h => by
  unfold qs0 at h; split at h
  · obtain rfl := Option.some.inj h; rfl
  · cases h
theorem start_qi {w1 w2 : World} {q c n1 : Nat} (T0 : Tb w1 (w.heap.size + 2) 3 1 (fset (fun _ => 0) 0 4)) (Tk : ∀ k, 0 < k → k < 4 → Tb w1 (w.heap.size + 2 + k) 3 1 (fun _ => 0))
    (O : w1.ownsRow (w.heap.size + 6) 39 2 (.slice (some ⟨q, 0, none⟩) 1 c) 1 (rcs [⟨0, 4⟩])) (b1 : Below w.heap.size w w1) (hn : w1.heap.size = n1) (P : PBox w2 n1 (psE (w.heap.size + 2) q c)) (b2 : Below w1.heap.size w1 w2) :
    QI w w2 n1 (qs0 (w.heap.size + 2) q c) 1 := by
  have hq := O.lt q rfl
  have l3 := (Tk 3 (by omega) (by omega)).lt
  have hsz := b2.size
  have OR : OwnR w.heap.size (w.heap.size + 6) w w1 (some ⟨q, 0, none⟩) c [⟨0, 4⟩] := ⟨O, b1, by omega, by omega⟩
  have S0 := (OR.src (by simp)).1
  refine ⟨P.congr (fun k hk => ?_), fun k hk => ?_, fun i j hi hj hn => ?_, fun i j hi hj ad ha => ?_, b1.trans (b2.mono b1.size), by omega⟩
  · match k, hk with
    | 0, _ | 1, _ | 2, _ | 3, _ => rfl
  · by_cases h : k = 0
    · subst h
      exact ⟨T0.below b2, S0.below b2, Nat.le_refl _, by show _ ≤ w.heap.size + 2; omega, by show w.heap.size + 2 ≠ n1; omega, (fun ad ha => by have := qs0_bo _ _ _ _ ad ha; omega), (fun ad ha => by have := qs0_bo _ _ _ _ ad ha; omega)⟩
    · have e : qs0 (w.heap.size + 2) q c k = ⟨w.heap.size + 2 + k, 3, 1, fun _ => 0, none, 0, 0, []⟩ := by unfold qs0; rw [if_neg h]
      rw [e]
      exact ⟨(Tk k (by omega) hk).below b2, RSrc.empty _, Nat.zero_le _, by show _ ≤ w.heap.size + 2 + k; omega, by show w.heap.size + 2 + k ≠ n1; omega, (fun ad ha => by cases ha), (fun ad ha => by cases ha)⟩
  · rw [qs0_tb, qs0_tb]; omega
  · rw [qs0_tb]; have := qs0_bo _ _ _ _ ad ha; omega
end Go.Proofs.Ytikpjlbchnpmmaa
