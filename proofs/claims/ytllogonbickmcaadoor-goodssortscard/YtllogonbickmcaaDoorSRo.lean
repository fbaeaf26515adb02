/- Texts in order; rows of texts. -/
import Derived.Test.YtllogonbickmcaaDoorCRcmp
import Derived.Test.YtllogonbickmcaaDoorShf
import Derived.Lib.OwnBridge
import Derived.Lib.OthersKept
import Derived.Laws.Cells
import Derived.Laws.Tables
namespace Go.Proofs.YtllogonbickmcaaDoor
open Go.RowKit Go.Sort Go.Lib

/-- a text that memory can hold -/
abbrev TS := { b : ByteArray // b.size ≤ maxLen }
def dS : TS := ⟨⟨#[]⟩, Nat.zero_le _⟩
instance : Inhabited TS := ⟨dS⟩
def cS (x y : TS) : Int := cmpF x.1.data.toList y.1.data.toList
def encS (x : TS) : Value := .string x.1
theorem cS_zero (x y : TS) : cS x y = 0 ↔ x = y := by
  unfold cS
  rw [cmpF_zero]
  constructor
  · intro h
    apply Subtype.ext
    have : x.1.data = y.1.data := by rw [← Array.toArray_toList (xs := x.1.data), ← Array.toArray_toList (xs := y.1.data), h]
    cases hx : x.1; cases hy : y.1; rw [hx, hy] at this; simp at this; rw [this]
  · rintro rfl; rfl
theorem cS_anti (x y : TS) : cS y x = - cS x y := cmpF_cmp.anti _ _
theorem cS_rng (x y : TS) : cS x y = -1 ∨ cS x y = 0 ∨ cS x y = 1 := cmpF_cmp.rng _ _
theorem cS_trans (x y z : TS) (h1 : cS x y ≤ 0) (h2 : cS y z ≤ 0) : cS x z ≤ 0 ∧ (cS x z = 0 → cS x y = 0 ∧ cS y z = 0) := cmpF_cmp.trans _ _ _ h1 h2
theorem lt_le {x y z : TS} (h1 : cS x y < 0) (h2 : cS y z ≤ 0) : cS x z < 0 := by
  have := cS_trans x y z (by omega) h2
  have h3 := this.1
  rcases Int.lt_or_eq_of_le h3 with h | h
  · exact h
  · have := (this.2 h).1; omega
theorem le_lt {x y z : TS} (h1 : cS x y ≤ 0) (h2 : cS y z < 0) : cS x z < 0 := by
  have := cS_trans x y z h1 (by omega)
  have h3 := this.1
  rcases Int.lt_or_eq_of_le h3 with h | h
  · exact h
  · have := (this.2 h).2; omega
theorem lt_irr (x : TS) : ¬ cS x x < 0 := by have := (cS_zero x x).2 rfl; omega
def AscS (R : List TS) : Prop := R.Pairwise (fun x y => cS x y < 0)
/-- the members of L, each once, in order -/
def SortS (L R : List TS) : Prop := AscS R ∧ ∀ x, x ∈ R ↔ x ∈ L
theorem ascS_unique : ∀ {R R' : List TS}, AscS R → AscS R' → (∀ x, x ∈ R ↔ x ∈ R') → R = R'
  | [], [], _, _, _ => rfl
  | [], b :: _, _, _, h => absurd ((h b).2 (List.mem_cons_self ..)) (by simp)
  | a :: _, [], _, _, h => absurd ((h a).1 (List.mem_cons_self ..)) (by simp)
  | a :: R, b :: R', h1, h2, h => by
    obtain ⟨a1, a2⟩ := List.pairwise_cons.1 h1
    obtain ⟨b1, b2⟩ := List.pairwise_cons.1 h2
    have e : a = b := by
      rcases List.mem_cons.1 ((h a).1 (List.mem_cons_self ..)) with e | e
      · exact e
      · rcases List.mem_cons.1 ((h b).2 (List.mem_cons_self ..)) with e' | e'
        · exact e'.symm
        · have h3 := a1 b e'; have h4 := b1 a e; rw [cS_anti] at h4; omega
    subst e
    rw [ascS_unique a2 b2 (fun x => ?_)]
    have hx := h x
    simp only [List.mem_cons] at hx
    constructor
    · intro hm
      rcases hx.1 (Or.inr hm) with e | e
      · subst e; exact absurd (a1 x hm) (lt_irr x)
      · exact e
    · intro hm
      rcases hx.2 (Or.inr hm) with e | e
      · subst e; exact absurd (b1 x hm) (lt_irr x)
      · exact e
theorem SortS.unique {L R R' : List TS} (h : SortS L R) (h' : SortS L R') : R = R' := ascS_unique h.1 h'.1 (fun x => (h.2 x).trans (h'.2 x).symm)

/-- a row of texts -/
structure SSrc (w : World) (ao : Option Addr) (m c : Nat) (L : List TS) : Prop where
  len : L.length = m
  nil : ao = none → m = 0 ∧ c = 0
  cell : ∀ ad, ao = some ad → ∀ t, t < m → w.cell? (ad.add t) = some (.string (L.getD t dS).1)
  cap : m ≤ c
  room : c ≤ maxLen
  big : m ≤ 8796093022207
theorem SSrc.below {w w' : World} {ao : Option Addr} {m c : Nat} {L : List TS} (h : SSrc w ao m c L) (hb : Below w.heap.size w w') : SSrc w' ao m c L :=
  ⟨h.len, h.nil, fun ad ha t ht => by have := h.cell ad ha t ht; rw [hb.cell (World.block_lt_of_cell? _ _ this)]; exact this, h.cap, h.room, h.big⟩
theorem SSrc.at {w : World} {ao : Option Addr} {m c : Nat} {L : List TS} (h : SSrc w ao m c L) (k : Nat) (hk : k < m) : ∃ ad, ao = some ad ∧ w.cell? (ad.add k) = some (.string (L.getD k dS).1) := by
  cases ao with
  | none => have := h.nil rfl; omega
  | some ad => exact ⟨ad, rfl, h.cell ad rfl k hk⟩
theorem SSrc.empty (w : World) : SSrc w none 0 0 [] := ⟨rfl, fun _ => ⟨rfl, rfl⟩, (fun ad h => by cases h), Nat.le_refl _, Nat.zero_le _, by omega⟩
theorem info9 : (Tryd.prog.info? 9).map (fun i => (i.zero, i.size, i.bytes)) = some (some (.string ⟨#[]⟩), 1, 16) := by kernel_rfl
def scs (L : List TS) : List Value := L.map encS
theorem scs_one (L : List TS) : ∀ u ∈ scs L, u.oneCell' = true := by
  intro u hu
  obtain ⟨x, _, rfl⟩ := List.mem_map.1 hu
  rfl
/-- the slice owns just these texts, in blocks from B on; below B0 all is as it was -/
structure OwnS (B0 B : Nat) (w w' : World) (ao : Option Addr) (cap : Nat) (acc : List TS) : Prop where
  own : w'.ownsRow B 9 1 (.slice ao acc.length cap) acc.length (scs acc)
  below : Below B0 w w'
  hB : B ≤ w'.heap.size
  hB0 : B0 ≤ B
theorem OwnS.nil {B0 B : Nat} {w w' : World} (hb : Below B0 w w') (hB : B ≤ w'.heap.size) (h0 : B0 ≤ B) : OwnS B0 B w w' none 0 [] :=
  ⟨World.ownsRow_nil _ _ _ _, hb, hB, h0⟩
theorem OwnS.append {B0 B : Nat} {w w' : World} {ao : Option Addr} {cap : Nat} {acc : List TS} (O : OwnS B0 B w w' ao cap acc) (e : TS) (C : Array Value) (hC : C = #[.string e.1]) (hlen : acc.length < 8796093022207)
    {ops : Array Oper} {rest : List Oper} {o : Oper} {a : Act} {Q : Exit → Act → World → Prop} (hgd : o.guard = none) (s x : Operand) (ho : o.op = .call { callee := .builtin .append, args := #[s, x], argTypes := #[22, 22] })
    (n : Nat) (hn : acc.length = n) (hs : a.eval s = .slice ao n cap) (hx : a.eval x = .slice (some ⟨w'.heap.size, 0, none⟩) 1 1)
    (hK : ∀ (g cap2 : Nat) (w2 : World), OwnS B0 B w w2 (some ⟨g, 0, none⟩) cap2 (acc ++ [e]) → wpList Tryd.prog ops Q rest (a.put o.dst (.slice (some ⟨g, 0, none⟩) (n + 1) cap2)) w2) :
    wpList Tryd.prog ops Q (o :: rest) a (w'.alloc (.cells C 9)) := by
  subst hn hC
  obtain ⟨i0, hi, hz0, hz1, hz2⟩ := info_parts info9
  have hB := O.hB
  have hB0 := O.hB0
  refine wpList_append_own _ hgd s x 22 ho B 9 i0 (.string ⟨#[]⟩) 1 16 Tryd.underlying22 hi hz0 hz1 hz2 rfl (by decide) _ acc.length (scs acc) hs (O.own.alloc _) ⟨w'.heap.size, 0, none⟩ 1 1 [.string e.1] hx rfl ?_ ?_ (by unfold maxLen; omega) (by omega) (by simp; omega) ?_
  · intro j u hj
    rw [Addr.add_lit, Nat.zero_add, World.cell?_alloc_new]
    simpa using hj
  · intro u hu
    obtain rfl := List.mem_singleton.1 hu
    rfl
  · intro v' w2 hown hgrow _
    rcases hown.2 with ⟨h0, h00⟩ | ⟨g, cap2, cur, hv, r⟩
    · omega
    · subst hv
      have hrow : ∀ k, (Value.slice ao acc.length cap).ownBlock = some k → B ≤ k := fun k hk => (O.own.lt k hk).1
      have hsz := hgrow.size
      rw [World.size_alloc] at hsz
      refine hK g cap2 w2 ⟨?_, (O.below.alloc (by omega) _).grown hgrow (by simp; omega) (fun k hk => by have := hrow k hk; omega), by omega, hB0⟩
      have e1 : scs (acc ++ [e]) = scs acc ++ [.string e.1] := by simp [scs, encS]
      rw [List.length_append, e1]; exact hown
theorem OwnS.later {B0 B : Nat} {w w' w2 : World} {ao : Option Addr} {cap : Nat} {acc : List TS} (O : OwnS B0 B w w' ao cap acc) (hb : Below w'.heap.size w' w2) : OwnS B0 B w w2 ao cap acc := by
  refine ⟨⟨O.own.1, ?_⟩, O.below.trans (hb.mono (Nat.le_trans O.hB0 O.hB)), Nat.le_trans O.hB hb.size, O.hB0⟩
  rcases O.own.2 with h | ⟨g, cap2, cur, hv, hbg, hgg, r⟩
  · exact Or.inl h
  · exact Or.inr ⟨g, cap2, cur, hv, hbg, (hb.block g (Array.getElem?_eq_some_iff.1 hgg).1).trans hgg, r⟩
theorem scs_at (L : List TS) (t : Nat) (ht : t < L.length) : (scs L)[t]? = some (.string (L.getD t dS).1) := by
  simp [scs, encS, List.getD, ht]
theorem OwnS.src {B0 B : Nat} {w w' : World} {ao : Option Addr} {cap : Nat} {acc : List TS} (O : OwnS B0 B w w' ao cap acc) (hl : acc.length ≤ 8796093022207) : SSrc w' ao acc.length cap acc ∧ ∀ ad, ao = some ad → B ≤ ad.block := by
  rcases O.own.2 with ⟨h0, h00⟩ | ⟨g, cap2, cur, hv, hbg, hgg, hnc, hcm, hcsz, htake⟩
  · simp only [Value.slice.injEq] at h0
    obtain ⟨rfl, e0, rfl⟩ := h0
    exact ⟨⟨rfl, fun _ => ⟨h00, rfl⟩, (fun ad h => by cases h), by omega, Nat.zero_le _, hl⟩, fun ad h => (by cases h)⟩
  · simp only [Value.slice.injEq, true_and] at hv
    obtain ⟨rfl, rfl⟩ := hv
    refine ⟨⟨rfl, fun h => (by cases h), fun ad h t ht => ?_, hnc, hcm, hl⟩, fun ad h => by obtain rfl := Option.some.inj h; exact hbg⟩
    obtain rfl := Option.some.inj h
    rw [Addr.add_lit, Nat.zero_add, O.own.cellAt t (by omega), scs_at _ t ht]
end Go.Proofs.YtllogonbickmcaaDoor
