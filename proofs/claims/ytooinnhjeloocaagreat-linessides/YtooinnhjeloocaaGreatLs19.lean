/- PDk PCm Shd -/
import Derived.Test.YtooinnhjeloocaaGreatLs02
import Derived.Laws.AppendOwnNone
import Derived.Test.YtooinnhjeloocaaGreatLs08
import Derived.Shelf.SlSortCmp.WholeK
import Derived.Shelf.SlGeneric
import Derived.Ground.SlsfProg
import Derived.Test.YtooinnhjeloocaaGreatProg
namespace Go.Proofs.YtooinnhjeloocaaGreat
open Go.RowKit

def ldD (v : Value) : Sem Value := Instr.loadAt 28 v
theorem ldD_eq (v : Value) : Instr.loadAt 28 v = ldD v := rfl
def stD (p v : Value) : Sem Unit := Instr.storeAt 28 p v
theorem stD_eq (p v : Value) : Instr.storeAt 28 p v = stD p v := rfl
theorem sizeD : (Tryz.prog.info? 28).map (·.size) = some 2 := by kernel_rfl
theorem infoD : (Tryz.prog.info? 28).map (fun i => (i.zero, i.size, i.bytes)) = some (some (.agg #[.int .i64 0, .int .i64 0]), 2, 16) := by kernel_rfl
theorem run_ldD {w : World} {p : Addr} {r : Rn} (A : RnAt w p r) : (ldD (.pointer (some p))).run Tryz.prog w = .ok (RV r) w := by
  have hl := run_loadCells_list (P := Tryz.prog) (w := w) p (RC r).toList (fun j v hv => by
    match j, hv with
    | 0, hv => cases hv; rw [add_zero]; exact A.c0
    | 1, hv => cases hv; exact A.c1
    | j + 2, hv => simp [RC] at hv)
  unfold ldD
  simp only [Instr.loadAt, Instr.sureAddr, Sem.run_bind, Sem.run_pure, Result.andThen]
  cases hq : Tryz.prog.info? 28 with
  | none => have := sizeD; simp [hq] at this
  | some x =>
    have hs : x.size = 2 := by have := sizeD; simpa [hq] using this
    have hagg : (isAgg 28).run Tryz.prog w = .ok true w := by
      unfold isAgg
      rw [Sem.run_bind, run_underlying Tryz.underlying28 w]
      rfl
    have e2 : (RC r).toList.length = 2 := rfl
    rw [e2] at hl
    simp [loadVar, Sem.run_bind, hagg, sizeOf, typeInfo, hq, hs, hl, RV]
theorem run_stD {w : World} {g : Nat} {T : TypeId} {r r' : Rn} (A : Box w g T r) : (stD (.pointer (some ⟨g, 0, none⟩)) (RV r')).run Tryz.prog w = .ok () (w.setRow g (RC r')) := by
  unfold stD
  have h := run_storeCells_from (P := Tryz.prog) g T (RC r').toList 0 (RC r) w A (by simp [RC]) (RC_one r')
  cases hq : Tryz.prog.info? 28 with
  | none => have := sizeD; simp [hq] at this
  | some x =>
    have hs : x.size = 2 := by have := sizeD; simpa [hq] using this
    simp only [Instr.storeAt, Instr.sureAddr, Sem.run_bind, Sem.run_pure, Result.andThen, storeVar, sizeOf, typeInfo, cells_RV, RC_size]
    simp at h
    simp [h, hq, hs]
/-- a variable made and filled -/
theorem madeD (w : World) (r : Rn) (g : Nat) (hg : w.heap.size = g) : ∃ w' : World, (stD (.pointer (some ⟨g, 0, none⟩)) (RV r)).run Tryz.prog (w.alloc (.cells (RC rn0) 28)) = .ok () w' ∧ Box w' g 28 r ∧ Below w.heap.size w w' ∧ w'.heap.size = w.heap.size + 1 := by
  subst hg
  refine ⟨_, run_stD (box_new w 28 rn0), (box_new w 28 rn0).setRow, below_setRow (below_new w _) (Nat.le_refl _), by simp [World.setRow]⟩
/-- the slice owns just these dots, in blocks from B on; below B0 all is as it was -/
structure OwnD (B0 B : Nat) (w w' : World) (ao : Option Addr) (cap : Nat) (acc : List Rn) : Prop where
  own : w'.ownsRow B 28 2 (.slice ao acc.length cap) acc.length (rcs acc)
  below : Below B0 w w'
  hB : B ≤ w'.heap.size
  hB0 : B0 ≤ B
theorem OwnD.later {B0 B : Nat} {w w' w2 : World} {ao : Option Addr} {cap : Nat} {acc : List Rn} (O : OwnD B0 B w w' ao cap acc) (hb : Below w'.heap.size w' w2) : OwnD B0 B w w2 ao cap acc := by
  refine ⟨⟨O.own.1, ?_⟩, O.below.trans (hb.mono (Nat.le_trans O.hB0 O.hB)), Nat.le_trans O.hB hb.size, O.hB0⟩
  rcases O.own.2 with h | ⟨g, cap2, cur, hv, hbg, hgg, r⟩
  · exact Or.inl h
  · exact Or.inr ⟨g, cap2, cur, hv, hbg, (hb.block g (Array.getElem?_eq_some_iff.1 hgg).1).trans hgg, r⟩
theorem rcs_cell {w : World} {E : List Rn} {ad : Addr} (h : ∀ t, t < E.length → RnAt w (ad.add (t * 2)) (E.getD t rn0)) (j : Nat) (u : Value) (hj : (rcs E)[j]? = some u) : w.cell? (ad.add j) = some u := by
  have hl : j < E.length * 2 := by rw [← rcs_length]; exact (List.getElem?_eq_some_iff.1 hj).1
  have ht : j / 2 < E.length := by omega
  have e := rcs_at E (j / 2) (j % 2) ht (by omega)
  rw [show j / 2 * 2 + j % 2 = j by omega, hj] at e
  have A := h (j / 2) ht
  have h2 : j % 2 = 0 ∨ j % 2 = 1 := by omega
  rcases h2 with h2 | h2
  · rw [h2] at e
    have e' : u = .int .i64 (E.getD (j / 2) rn0).lo := by simpa [RC] using e
    rw [e', show ad.add j = ad.add (j / 2 * 2) by rw [show j / 2 * 2 = j by omega]]
    exact A.c0
  · rw [h2] at e
    have e' : u = .int .i64 (E.getD (j / 2) rn0).hi := by simpa [RC] using e
    have := A.c1
    rw [add_add, show j / 2 * 2 + 1 = j by omega] at this
    rw [e']; exact this
/-- a list of dots is appended -/
theorem OwnD.append {B0 B : Nat} {w w' : World} {ao : Option Addr} {cap : Nat} {acc : List Rn} (O : OwnD B0 B w w' ao cap acc) (E : List Rn) (ad : Addr) (m c : Nat) (hm : E.length = m) (hE : ∀ t, t < m → RnAt w' (ad.add (t * 2)) (E.getD t rn0)) (hlen : acc.length + m ≤ 8796093022207)
    {ops : Array Oper} {rest : List Oper} {o : Oper} {a : Act} {Q : Exit → Act → World → Prop} (hgd : o.guard = none) (s x : Operand) (ho : o.op = .call { callee := .builtin .append, args := #[s, x], argTypes := #[51, 51] })
    (n : Nat) (hn : acc.length = n) (hs : a.eval s = .slice ao n cap) (hx : a.eval x = .slice (some ad) m c)
    (hK : ∀ (ao2 : Option Addr) (cap2 : Nat) (w2 : World), OwnD B0 B w w2 ao2 cap2 (acc ++ E) → wpList Tryz.prog ops Q rest (a.put o.dst (.slice ao2 (n + m) cap2)) w2) :
    wpList Tryz.prog ops Q (o :: rest) a w' := by
  subst hn hm
  obtain ⟨i0, hi, hz0, hz1, hz2⟩ := info_parts infoD
  have hB := O.hB
  have hB0 := O.hB0
  refine wpList_append_own _ hgd s x 51 ho B 28 i0 (.agg #[.int .i64 0, .int .i64 0]) 2 16 Tryz.underlying51 hi hz0 hz1 hz2 rfl (by decide) _ acc.length (rcs acc) hs O.own ad E.length c (rcs E) hx (rcs_length E) (fun j u hj => rcs_cell hE j u hj) (rcs_onecell E) (by unfold maxLen; omega) (by omega) hB ?_
  intro v' w2 hown hgrow _
  have hrow : ∀ k, (Value.slice ao acc.length cap).ownBlock = some k → B ≤ k := fun k hk => (O.own.lt k hk).1
  have hsz := hgrow.size
  have hb2 : Below B0 w w2 := O.below.grown hgrow (by omega) (fun k hk => by have := hrow k hk; omega)
  rw [← rcs_append] at hown
  rcases hown.2 with ⟨h0, h00⟩ | ⟨g, cap2, cur, hv, r⟩
  · subst h0
    have e1 : acc = [] := List.eq_nil_of_length_eq_zero (by omega)
    have e2 : E = [] := List.eq_nil_of_length_eq_zero (by omega)
    subst e1 e2
    exact hK none 0 w2 ⟨hown, hb2, by omega, hB0⟩
  · subst hv
    refine hK (some ⟨g, 0, none⟩) cap2 w2 ⟨?_, hb2, by omega, hB0⟩
    rw [List.length_append]; exact hown
/-- .. where what is appended is nil -/
theorem OwnD.appendNone {B0 B : Nat} {w w' : World} {ao : Option Addr} {cap : Nat} {acc : List Rn} (O : OwnD B0 B w w' ao cap acc)
    {ops : Array Oper} {rest : List Oper} {o : Oper} {a : Act} {Q : Exit → Act → World → Prop} (hgd : o.guard = none) (s x : Operand) (ho : o.op = .call { callee := .builtin .append, args := #[s, x], argTypes := #[51, 51] })
    (n : Nat) (hn : acc.length = n) (hs : a.eval s = .slice ao n cap) (hx : a.eval x = .slice none 0 0)
    (hK : wpList Tryz.prog ops Q rest (a.put o.dst (.slice ao n cap)) w') :
    wpList Tryz.prog ops Q (o :: rest) a w' := by
  subst hn
  obtain ⟨i0, hi, hz0, hz1, hz2⟩ := info_parts infoD
  exact wpList_append_own_none hgd s x 51 ho B 28 i0 2 Tryz.underlying51 hi _ acc.length (rcs acc) hs O.own hx hK
theorem OwnD.src {B0 B : Nat} {w w' : World} {ao : Option Addr} {cap : Nat} {acc : List Rn} (O : OwnD B0 B w w' ao cap acc) (hl : acc.length ≤ 8796093022207) : RSrc w' ao acc.length cap acc ∧ ∀ ad, ao = some ad → B ≤ ad.block := by
  rcases O.own.2 with ⟨h0, h00⟩ | ⟨g, cap2, cur, hv, hbg, hgg, hnc, hcm, hcsz, htake⟩
  · simp only [Value.slice.injEq] at h0
    obtain ⟨rfl, e0, rfl⟩ := h0
    exact ⟨⟨rfl, fun _ => ⟨h00, rfl⟩, (fun ad h => by cases h), by omega, Nat.zero_le _, hl⟩, fun ad h => (by cases h)⟩
  · simp only [Value.slice.injEq, true_and] at hv
    obtain ⟨rfl, rfl⟩ := hv
    have cell : ∀ t j, t < acc.length → j < 2 → w'.cell? ⟨g, t * 2 + j, none⟩ = (RC (acc.getD t rn0)).toList[j]? := fun t j ht hj => by
      rw [O.own.cellAt (t * 2 + j) (by omega), rcs_at _ t j ht hj]
    refine ⟨⟨rfl, fun h => (by cases h), fun ad h t ht => ?_, hnc, hcm, hl⟩, fun ad h => by obtain rfl := Option.some.inj h; exact hbg⟩
    obtain rfl := Option.some.inj h
    refine ⟨?_, ?_⟩
    · rw [Addr.add_lit, Nat.zero_add]; exact cell t 0 ht (by omega)
    · rw [Addr.add_lit, Addr.add_lit, Nat.zero_add]; exact cell t 1 ht (by omega)
/-- .. nil or not -/
theorem OwnD.appendS {B0 B : Nat} {w w' : World} {ao : Option Addr} {cap : Nat} {acc : List Rn} (O : OwnD B0 B w w' ao cap acc) (E : List Rn) (xo : Option Addr) (m c : Nat) (S : RSrc w' xo m c E) (hlen : acc.length + m ≤ 8796093022207)
    {ops : Array Oper} {rest : List Oper} {o : Oper} {a : Act} {Q : Exit → Act → World → Prop} (hgd : o.guard = none) (s x : Operand) (ho : o.op = .call { callee := .builtin .append, args := #[s, x], argTypes := #[51, 51] })
    (n : Nat) (hn : acc.length = n) (hs : a.eval s = .slice ao n cap) (hx : a.eval x = .slice xo m c)
    (hK : ∀ (ao2 : Option Addr) (cap2 : Nat) (w2 : World), OwnD B0 B w w2 ao2 cap2 (acc ++ E) → wpList Tryz.prog ops Q rest (a.put o.dst (.slice ao2 (n + m) cap2)) w2) :
    wpList Tryz.prog ops Q (o :: rest) a w' := by
  cases xo with
  | some ad => exact O.append E ad m c S.len (fun t ht => S.cell ad rfl t ht) hlen hgd s x ho n hn hs hx hK
  | none =>
    obtain ⟨rfl, rfl⟩ := S.nil rfl
    have e := List.eq_nil_of_length_eq_zero S.len
    subst e
    refine O.appendNone hgd s x ho n hn hs hx ?_
    have := hK ao cap w'
    rw [List.append_nil, Nat.add_zero] at this
    exact this O
/-- a new, empty row -/
theorem ownD_made (w : World) : OwnD w.heap.size w.heap.size w (w.alloc (.cells #[] 28)) (some ⟨w.heap.size, 0, none⟩) 0 [] :=
  ⟨World.ownsRow_made w #[] 0 (Nat.le_refl _) (Nat.zero_le _) rfl, below_new w _, by simp, Nat.le_refl _⟩
end Go.Proofs.YtooinnhjeloocaaGreat
namespace Go.Proofs.YtooinnhjeloocaaGreat

def lex {α : Type} (c : α → α → Int) : List α → List α → Int
  | [], [] => 0
  | [], _ :: _ => -1
  | _ :: _, [] => 1
  | x :: s, y :: t => if c x y = 0 then lex c s t else c x y
/-- a total order: -1, 0 or 1 -/
structure Tot {α : Type} (c : α → α → Int) : Prop where
  rng : ∀ x y, c x y = -1 ∨ c x y = 0 ∨ c x y = 1
  neg : ∀ x y, c y x = - c x y
  eq : ∀ x y, c x y = 0 ↔ x = y
  tr : ∀ x y z, c x y ≤ 0 → c y z ≤ 0 → c x z ≤ 0
theorem Tot.lt {α : Type} {c : α → α → Int} (h : Tot c) {x y z : α} (h1 : c x y < 0) (h2 : c y z ≤ 0) : c x z < 0 := by
  have h3 := h.tr x y z (by omega) h2
  by_cases e : c x z = 0
  · have := (h.eq x z).1 e
    subst this
    have := h.neg x y
    omega
  · omega
theorem Tot.lt' {α : Type} {c : α → α → Int} (h : Tot c) {x y z : α} (h1 : c x y ≤ 0) (h2 : c y z < 0) : c x z < 0 := by
  have h3 := h.tr x y z h1 (by omega)
  by_cases e : c x z = 0
  · have := (h.eq x z).1 e
    subst this
    have := h.neg x y
    omega
  · omega
theorem cmpI_tot : Tot cmpI := by
  refine ⟨fun x y => ?_, fun x y => ?_, fun x y => ?_, fun x y z => ?_⟩ <;> unfold cmpI
  · split
    · omega
    · split <;> omega
  · split <;> split <;> (try split) <;> omega
  · split
    · omega
    · split <;> omega
  · intro h1 h2
    split at h1
    · split at h2
      · rw [if_pos (by omega)]; omega
      · split at h2
        · omega
        · rw [if_pos (by omega)]; omega
    · split at h1
      · omega
      · split at h2
        · rw [if_pos (by omega)]; omega
        · split at h2
          · omega
          · rw [if_neg (by omega), if_neg (by omega)]; omega
theorem Tot.lex {α : Type} {c : α → α → Int} (h : Tot c) : Tot (lex c) := by
  refine ⟨?_, ?_, ?_, ?_⟩
  · intro x
    induction x with
    | nil => intro y; cases y <;> simp [Go.Proofs.YtooinnhjeloocaaGreat.lex]
    | cons a s ih =>
      intro y
      cases y with
      | nil => simp [Go.Proofs.YtooinnhjeloocaaGreat.lex]
      | cons b t =>
        simp only [Go.Proofs.YtooinnhjeloocaaGreat.lex]
        split
        · exact ih t
        · exact h.rng a b
  · intro x
    induction x with
    | nil => intro y; cases y <;> simp [Go.Proofs.YtooinnhjeloocaaGreat.lex]
    | cons a s ih =>
      intro y
      cases y with
      | nil => simp [Go.Proofs.YtooinnhjeloocaaGreat.lex]
      | cons b t =>
        simp only [Go.Proofs.YtooinnhjeloocaaGreat.lex]
        have := h.neg a b
        by_cases e : c a b = 0
        · rw [if_pos e, if_pos (by omega)]; exact ih t
        · rw [if_neg e, if_neg (by omega)]; exact this
  · intro x
    induction x with
    | nil => intro y; cases y <;> simp [Go.Proofs.YtooinnhjeloocaaGreat.lex]
    | cons a s ih =>
      intro y
      cases y with
      | nil => simp [Go.Proofs.YtooinnhjeloocaaGreat.lex]
      | cons b t =>
        simp only [Go.Proofs.YtooinnhjeloocaaGreat.lex]
        by_cases e : c a b = 0
        · rw [if_pos e, ih t]
          have := (h.eq a b).1 e
          subst this
          simp
        · rw [if_neg e]
          constructor
          · intro g; exact absurd g e
          · intro g
            have : a = b := by injection g
            exact absurd ((h.eq a b).2 this) e
  · intro x
    induction x with
    | nil =>
      intro y z h1 h2
      cases z with
      | nil => simp [Go.Proofs.YtooinnhjeloocaaGreat.lex]
      | cons d u => simp [Go.Proofs.YtooinnhjeloocaaGreat.lex]
    | cons a s ih =>
      intro y z h1 h2
      cases y with
      | nil => simp [Go.Proofs.YtooinnhjeloocaaGreat.lex] at h1
      | cons b t =>
        cases z with
        | nil => simp [Go.Proofs.YtooinnhjeloocaaGreat.lex] at h2
        | cons d u =>
          simp only [Go.Proofs.YtooinnhjeloocaaGreat.lex] at h1 h2 ⊢
          by_cases e1 : c a b = 0
          · rw [if_pos e1] at h1
            have := (h.eq a b).1 e1
            subst this
            by_cases e2 : c a d = 0
            · rw [if_pos e2] at h2 ⊢; exact ih t u h1 h2
            · rw [if_neg e2] at h2 ⊢; exact h2
          · rw [if_neg e1] at h1
            by_cases e2 : c b d = 0
            · have := (h.eq b d).1 e2
              subst this
              rw [if_neg e1]; exact h1
            · rw [if_neg e2] at h2
              have := h.lt (x := a) (y := b) (z := d) (by omega) h2
              rw [if_neg (by omega)]; omega
/-- first the one, then the other -/
def both {α β γ : Type} (f : α → β) (g : α → γ) (c1 : β → β → Int) (c2 : γ → γ → Int) (x y : α) : Int := if c1 (f x) (f y) = 0 then c2 (g x) (g y) else c1 (f x) (f y)
theorem Tot.both {α β γ : Type} {f : α → β} {g : α → γ} {c1 : β → β → Int} {c2 : γ → γ → Int} (h1 : Tot c1) (h2 : Tot c2) (hi : ∀ x y, f x = f y → g x = g y → x = y) : Tot (both f g c1 c2) := by
  refine ⟨fun x y => ?_, fun x y => ?_, fun x y => ?_, fun x y z => ?_⟩ <;> unfold Go.Proofs.YtooinnhjeloocaaGreat.both
  · split
    · exact h2.rng _ _
    · exact h1.rng _ _
  · have := h1.neg (f x) (f y)
    by_cases e : c1 (f x) (f y) = 0
    · rw [if_pos e, if_pos (by omega)]; exact h2.neg _ _
    · rw [if_neg e, if_neg (by omega)]; exact this
  · by_cases e : c1 (f x) (f y) = 0
    · rw [if_pos e, h2.eq]
      exact ⟨fun k => hi x y ((h1.eq _ _).1 e) k, fun k => by rw [k]⟩
    · rw [if_neg e]
      exact ⟨fun k => absurd k e, fun k => absurd ((h1.eq _ _).2 (by rw [k])) e⟩
  · intro a b
    by_cases e1 : c1 (f x) (f y) = 0
    · rw [if_pos e1] at a
      have q := (h1.eq _ _).1 e1
      rw [q]
      by_cases e2 : c1 (f y) (f z) = 0
      · rw [if_pos e2] at b ⊢; exact h2.tr _ _ _ a b
      · rw [if_neg e2] at b ⊢; exact b
    · rw [if_neg e1] at a
      by_cases e2 : c1 (f y) (f z) = 0
      · have q := (h1.eq _ _).1 e2
        rw [← q, if_neg e1]; exact a
      · rw [if_neg e2] at b
        have := h1.lt (x := f x) (y := f y) (z := f z) (by omega) b
        rw [if_neg (by omega)]; omega
theorem sn_eq {x y : Sn} (h1 : x.rep = y.rep) (h2 : x.lo = y.lo) (h3 : x.hi = y.hi) : x = y := by
  cases x; cases y; simp_all
/-- the order of spans -/
def cmp3 (x y : Sn) : Int := if cmpI x.rep y.rep = 0 then (if cmpI x.lo y.lo = 0 then cmpI x.hi y.hi else cmpI x.lo y.lo) else cmpI x.rep y.rep
theorem cmp3_tot : Tot cmp3 := by
  have h : Tot (both (fun x : Int × Int × Int => x.1) (fun x => x.2) cmpI (both (fun x : Int × Int => x.1) (fun x => x.2) cmpI cmpI)) :=
    Tot.both cmpI_tot (Tot.both cmpI_tot cmpI_tot (fun x y h1 h2 => Prod.ext h1 h2)) (fun x y h1 h2 => Prod.ext h1 h2)
  have e : ∀ x y, cmp3 x y = both (fun x : Int × Int × Int => x.1) (fun x => x.2) cmpI (both (fun x : Int × Int => x.1) (fun x => x.2) cmpI cmpI) (x.rep, x.lo, x.hi) (y.rep, y.lo, y.hi) := fun x y => rfl
  refine ⟨fun x y => ?_, fun x y => ?_, fun x y => ?_, fun x y z => ?_⟩
  · rw [e]; exact h.rng _ _
  · rw [e, e]; exact h.neg _ _
  · rw [e, h.eq]
    constructor
    · intro g
      simp only [Prod.mk.injEq] at g
      exact sn_eq g.1 g.2.1 g.2.2
    · intro g; rw [g]
  · rw [e, e, e]; exact h.tr _ _ _
/-- the order of pasts in form -/
def cmpP (P Q : Pst) : Int := if lex cmpI P.vec Q.vec = 0 then lex cmp3 P.cloud Q.cloud else lex cmpI P.vec Q.vec
theorem cmpP_tot : Tot cmpP := Tot.both (f := Pst.vec) (g := Pst.cloud) cmpI_tot.lex cmp3_tot.lex (fun x y h1 h2 => by cases x; cases y; simp_all)
/-- the first k alike -/
theorem lex_drop {α : Type} {c : α → α → Int} (hc : Tot c) (A B : List α) : ∀ k, A.take k = B.take k → k ≤ A.length → k ≤ B.length → lex c A B = lex c (A.drop k) (B.drop k)
  | 0, _, _, _ => rfl
  | k + 1, h, h1, h2 => by
    cases A with
    | nil => simp at h1
    | cons a s =>
      cases B with
      | nil => simp at h2
      | cons b t =>
        simp only [List.take_succ_cons, List.cons.injEq] at h
        obtain ⟨rfl, h⟩ := h
        have e := (hc.eq a a).2 rfl
        rw [Go.Proofs.YtooinnhjeloocaaGreat.lex, if_pos e]
        exact lex_drop hc s t k h (by simpa using h1) (by simpa using h2)
end Go.Proofs.YtooinnhjeloocaaGreat
namespace Go.Proofs
open Go.Shelf
def Tryz.sortD_ren : Go.Shelf.Ren := ⟨fun | 6 => 41 | 15 => 61 | 14 => 62 | 28 => 79 | 29 => 80 | 20 => 81 | 21 => 82 | 22 => 83 | 23 => 84 | 24 => 85 | 25 => 86 | 26 => 87 | 27 => 88 | 46 => 102 | 47 => 98 | 48 => 99 | 49 => 103 | 50 => 104 | 57 => 112 | n => n, fun | 22 => 51 | 24 => 28 | 25 => 70 | 3 => 3 | 39 => 91 | 0 => 0 | 53 => 112 | 55 => 114 | 4 => 4 | 46 => 106 | 45 => 105 | 50 => 84 | 5 => 5 | 9 => 9 | 66 => 129 | 70 => 133 | 76 => 141 | 77 => 124 | n => n, fun | n => n⟩
theorem Tryz.sortD : Go.Proofs.SlLaysF0.n6 Tryz.prog Tryz.sortD_ren := {
  mixed := by kernel_rfl
  f6 := ⟨Tryz.f41.name, by decide, Tryz.func41.trans (congrArg some (by kernel_rfl))⟩
  f14 := ⟨Tryz.f62.name, by decide, Tryz.func62.trans (congrArg some (by kernel_rfl))⟩
  f15 := Tryz.func61.trans (congrArg some (by kernel_rfl))
  f20 := ⟨Tryz.f81.name, by decide, Tryz.func81.trans (congrArg some (by kernel_rfl))⟩
  f21 := ⟨Tryz.f82.name, by decide, Tryz.func82.trans (congrArg some (by kernel_rfl))⟩
  f22 := ⟨Tryz.f83.name, by decide, Tryz.func83.trans (congrArg some (by kernel_rfl))⟩
  f23 := ⟨Tryz.f84.name, by decide, Tryz.func84.trans (congrArg some (by kernel_rfl))⟩
  f24 := ⟨Tryz.f85.name, by decide, Tryz.func85.trans (congrArg some (by kernel_rfl))⟩
  f25 := ⟨Tryz.f86.name, by decide, Tryz.func86.trans (congrArg some (by kernel_rfl))⟩
  f26 := ⟨Tryz.f87.name, by decide, Tryz.func87.trans (congrArg some (by kernel_rfl))⟩
  f27 := ⟨Tryz.f88.name, by decide, Tryz.func88.trans (congrArg some (by kernel_rfl))⟩
  f28 := Tryz.func79.trans (congrArg some (by kernel_rfl))
  f29 := Tryz.func80.trans (congrArg some (by kernel_rfl))
  f46 := ⟨Tryz.f102.name, by decide, Tryz.func102.trans (congrArg some (by kernel_rfl))⟩
  f47 := Tryz.func98.trans (congrArg some (by kernel_rfl))
  f48 := Tryz.func99.trans (congrArg some (by kernel_rfl))
  f49 := ⟨Tryz.f103.name, by decide, Tryz.func103.trans (congrArg some (by kernel_rfl))⟩
  f50 := ⟨Tryz.f104.name, by decide, Tryz.func104.trans (congrArg some (by kernel_rfl))⟩
  f57 := ⟨Tryz.f112.name, by decide, Tryz.func112.trans (congrArg some (by kernel_rfl))⟩
  t0 := Tryz.underlying0
  a0 := Tryz.isAgg0
  z0 := Tryz.sizeOf0
  v0 := Tryz.zeroValue0
  t3 := Tryz.underlying3
  a3 := Tryz.isAgg3
  z3 := Tryz.sizeOf3
  v3 := Tryz.zeroValue3
  t4 := Tryz.underlying4
  a4 := Tryz.isAgg4
  z4 := Tryz.sizeOf4
  v4 := Tryz.zeroValue4
  t5 := Tryz.underlying5
  a5 := Tryz.isAgg5
  z5 := Tryz.sizeOf5
  v5 := Tryz.zeroValue5
  t9 := Tryz.underlying9
  a9 := Tryz.isAgg9
  z9 := Tryz.sizeOf9
  v9 := Tryz.zeroValue9
  t22 := Tryz.underlying51
  a22 := Tryz.isAgg51
  z22 := Tryz.sizeOf51
  v22 := Tryz.zeroValue51
  t25 := Tryz.underlying70
  a25 := Tryz.isAgg70
  z25 := Tryz.sizeOf70
  v25 := Tryz.zeroValue70
  t39 := Tryz.underlying91
  a39 := Tryz.isAgg91
  z39 := Tryz.sizeOf91
  v39 := Tryz.zeroValue91
  t45 := Tryz.underlying105
  a45 := Tryz.isAgg105
  z45 := Tryz.sizeOf105
  v45 := Tryz.zeroValue105
  t46 := Tryz.underlying106
  a46 := Tryz.isAgg106
  z46 := Tryz.sizeOf106
  v46 := Tryz.zeroValue106
  t50 := Tryz.underlying84
  a50 := Tryz.isAgg84
  z50 := Tryz.sizeOf84
  v50 := Tryz.zeroValue84
  t53 := Tryz.underlying112
  a53 := Tryz.isAgg112
  z53 := Tryz.sizeOf112
  v53 := Tryz.zeroValue112
  t55 := Tryz.underlying114
  a55 := Tryz.isAgg114
  z55 := Tryz.sizeOf114
  v55 := Tryz.zeroValue114
  t66 := Tryz.underlying129
  a66 := Tryz.isAgg129
  z66 := Tryz.sizeOf129
  v66 := Tryz.zeroValue129
  t70 := Tryz.underlying133
  a70 := Tryz.isAgg133
  z70 := Tryz.sizeOf133
  v70 := Tryz.zeroValue133
  t76 := Tryz.underlying141
  a76 := Tryz.isAgg141
  z76 := Tryz.sizeOf141
  v76 := Tryz.zeroValue141
  t77 := Tryz.underlying124
  a77 := Tryz.isAgg124
  z77 := Tryz.sizeOf124
  v77 := Tryz.zeroValue124 }
end Go.Proofs
