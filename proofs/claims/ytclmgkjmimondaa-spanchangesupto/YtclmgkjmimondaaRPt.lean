/- Put, Drop: their contracts. -/
import Derived.Test.YtclmgkjmimondaaRUo
import Derived.Test.YtclmgkjmimondaaRHs
import Derived.Test.YtclmgkjmimondaaRCo
namespace Go.Proofs.Ytclmgkjmimondaa
open Go.RowKit
attribute [local go_sem ↓] ldR_eq stR_eq
attribute [local go_sem] zero_RC cells_RV RC_size fold_RC build_RC

theorem only_any (x : Int) (w : World) : Calls Try.prog 55 #[.int .i64 x] w fun e w' => ∃ g, e = .returned (.slice (some ⟨g, 0, none⟩) 1 1) ∧ RSrc w' (some ⟨g, 0, none⟩) 1 1 [⟨x, x⟩] ∧ Below w.heap.size w w' := by
  go_enter Try.func55, Try.ntmps55
  go_wp2_with fail
  go_ret
  exact ⟨w.heap.size, rfl, lit_rsrc w [⟨x, x⟩] _ rfl _ 1 rfl (by omega), below_new _ _⟩
/-- a list and no error, or no list and the error ErrArg -/
def GivesP (w w' : World) (e : Ending) (x : Int) (P : List Rn → Prop) : Prop :=
  ((1 ≤ x ∧ x ≤ 1000000000) ∧ ∃ ao n c L, e = .returned (.tuple #[.slice ao n c, .int .i64 0]) ∧ RSrc w' ao n c L ∧ Below w.heap.size w w' ∧ P L) ∨
  (¬ (1 ≤ x ∧ x ≤ 1000000000) ∧ e = .returned (.tuple #[.slice none 0 0, .int .i64 2]) ∧ Below w.heap.size w w')
theorem not_num {x : Int} (h : ¬ (1 ≤ x ∧ x ≤ 1000000000)) : (decide (1 ≤ x) && decide (x ≤ 1000000000)) = false := by
  cases h1 : decide (1 ≤ x) with
  | false => rfl
  | true =>
    cases h2 : decide (x ≤ 1000000000) with
    | false => rfl
    | true => exact absurd ⟨of_decide_eq_true h1, of_decide_eq_true h2⟩ h
theorem put_any (ao : Option Addr) (n cap : Nat) (A : List Rn) (x : Int) (w : World) (hS : RSrc w ao n cap A) (hlen : n < 8796093022207) :
    Calls Try.prog 33 #[.slice ao n cap, .int .i64 x] w fun e w' => GivesP w w' e x (UnionOf A [⟨x, x⟩]) := by
  have HS := hide hS
  have HB := hide (Below.refl w.heap.size w)
  clear hS
  go_enter Try.func33, Try.ntmps33
  go_wp2_with fail
  refine (isNumber_any x _).mono ?_
  rintro e w1 ⟨rfl, rfl⟩
  by_cases hx : 1 ≤ x ∧ x ≤ 1000000000
  · have HX := hide hx
    rw [show (decide (1 ≤ x) && decide (x ≤ 1000000000)) = true by simp [hx]]
    clear hx
    go_wp2_with fail
    refine (only_any x _).mono ?_
    rintro e w2 ⟨g, rfl, S2, b2⟩
    have HS2 := hide S2
    have HB2 := hide b2
    clear S2 b2
    go_wp2_with fail
    have k0 : (w2.alloc (.cells #[.slice ao n cap, .slice (some ⟨g, 0, none⟩) 1 1] 22)).cell? ⟨w2.heap.size, 0, none⟩ = some (.slice ao n cap) := by simp
    have k1 : (w2.alloc (.cells #[.slice ao n cap, .slice (some ⟨g, 0, none⟩) 1 1] 22)).cell? ⟨w2.heap.size, 1, none⟩ = some (.slice (some ⟨g, 0, none⟩) 1 1) := by simp
    have B3 := below_new w2 (.cells #[.slice ao n cap, .slice (some ⟨g, 0, none⟩) 1 1] 22)
    have HB3 := hide (HB2.out.trans (B3.mono HB2.out.size))
    refine (union_any w2.heap.size ao (some ⟨g, 0, none⟩) n cap 1 1 A [⟨x, x⟩] _ (HS.out.below HB3.out) (HS2.out.below B3) k0 k1 (by omega)).mono ?_
    rintro e w4 ⟨a4, n4, c4, U, rfl, S4, b4, p4⟩
    have HF : Hid (GivesP w1 w4 (.returned (.tuple #[.slice a4 n4 c4, .int .i64 0])) x (UnionOf A [⟨x, x⟩])) := Or.inl ⟨HX.out, a4, n4, c4, U, rfl, S4, HB3.out.trans (b4.mono HB3.out.size), p4⟩
    clear S4 b4 p4 B3 k0 k1
    go_wp2_with fail
    go_ret2
    exact HF.out
  · have HF : Hid (GivesP w1 w1 (.returned (.tuple #[.slice none 0 0, .int .i64 2])) x (UnionOf A [⟨x, x⟩])) := Or.inr ⟨hx, rfl, HB.out⟩
    rw [not_num hx]
    clear hx
    go_wp2_with fail
    go_ret2
    exact HF.out
theorem drop_any (ao : Option Addr) (n cap : Nat) (A : List Rn) (x : Int) (w : World) (hS : RSrc w ao n cap A) :
    Calls Try.prog 36 #[.slice ao n cap, .int .i64 x] w fun e w' => GivesP w w' e x (MinusOf A [⟨x, x⟩]) := by
  have HS := hide hS
  have HB := hide (Below.refl w.heap.size w)
  clear hS
  go_enter Try.func36, Try.ntmps36
  go_wp2_with fail
  refine (isNumber_any x _).mono ?_
  rintro e w1 ⟨rfl, rfl⟩
  by_cases hx : 1 ≤ x ∧ x ≤ 1000000000
  · have HX := hide hx
    rw [show (decide (1 ≤ x) && decide (x ≤ 1000000000)) = true by simp [hx]]
    clear hx
    go_wp2_with fail
    refine (only_any x _).mono ?_
    rintro e w2 ⟨g, rfl, S2, b2⟩
    have HS2 := hide S2
    have HB2 := hide b2
    clear S2 b2
    go_wp2_with fail
    refine (minus_any ao (some ⟨g, 0, none⟩) n cap 1 1 A [⟨x, x⟩] _ (HS.out.below HB2.out) HS2.out).mono ?_
    rintro e w4 ⟨a4, n4, c4, U, rfl, S4, b4, p4⟩
    have HF : Hid (GivesP w1 w4 (.returned (.tuple #[.slice a4 n4 c4, .int .i64 0])) x (MinusOf A [⟨x, x⟩])) := Or.inl ⟨HX.out, a4, n4, c4, U, rfl, S4, HB2.out.trans (b4.mono HB2.out.size), p4⟩
    clear S4 b4 p4
    go_wp2_with fail
    go_ret2
    exact HF.out
  · have HF : Hid (GivesP w1 w1 (.returned (.tuple #[.slice none 0 0, .int .i64 2])) x (MinusOf A [⟨x, x⟩])) := Or.inr ⟨hx, rfl, HB.out⟩
    rw [not_num hx]
    clear hx
    go_wp2_with fail
    go_ret2
    exact HF.out
/-- behind the numbers Z -/
def GI (Z : List Int) (X : List Rn) : Prop := form 1 X ∧ ∀ x, mem X x ↔ x ∈ Z ∧ 1 ≤ x ∧ x ≤ 1000000000
theorem GI.start : GI [] [] := ⟨trivial, fun x => ⟨fun h => absurd h (mem_nil x), fun h => by cases h.1⟩⟩
theorem GI.skip {Z : List Int} {X : List Rn} {n : Int} (h : GI Z X) (hn : ¬ (1 ≤ n ∧ n ≤ 1000000000)) : GI (Z ++ [n]) X := by
  refine ⟨h.1, fun x => ?_⟩
  rw [h.2 x, List.mem_append, List.mem_singleton]
  constructor
  · exact fun ⟨a, b⟩ => ⟨Or.inl a, b⟩
  · rintro ⟨a | rfl, b⟩
    · exact ⟨a, b⟩
    · exact absurd b hn
theorem mem_only (n x : Int) (hn : 1 ≤ n ∧ n ≤ 1000000000) : mem [⟨n, n⟩] x ↔ x = n := by
  rw [mem_one]
  simp only
  constructor
  · intro h; omega
  · rintro rfl; exact ⟨hn.1, hn.2, Int.le_refl _, Int.le_refl _⟩
theorem GI.put {Z : List Int} {X R : List Rn} {n : Int} (h : GI Z X) (hn : 1 ≤ n ∧ n ≤ 1000000000) (hR : UnionOf X [⟨n, n⟩] R) : GI (Z ++ [n]) R := by
  refine ⟨hR.1, fun x => ?_⟩
  rw [hR.2 x, h.2 x, mem_only n x hn, List.mem_append, List.mem_singleton]
  constructor
  · rintro (⟨a, b⟩ | rfl)
    · exact ⟨Or.inl a, b⟩
    · exact ⟨Or.inr rfl, hn⟩
  · rintro ⟨a | rfl, b⟩
    · exact Or.inl ⟨a, b⟩
    · exact Or.inr rfl
theorem only_form (n : Int) (hn : 1 ≤ n ∧ n ≤ 1000000000) : form 1 [⟨n, n⟩] := ⟨hn.1, Int.le_refl _, hn.2, trivial⟩
theorem sz_only (n : Int) : sz [⟨n, n⟩] = 1 := by simp [sz]
theorem put_had {X R : List Rn} {n : Int} (hX : form 1 X) (hn : 1 ≤ n ∧ n ≤ 1000000000) (hR : UnionOf X [⟨n, n⟩] R) (hm : mem X n) : sz R = sz X := by
  have : R = X := form_unique (Int.le_refl _) hR.1 hX (fun x => by
    rw [hR.2 x, mem_only n x hn]
    exact ⟨fun h => h.elim id (fun e => by rw [e]; exact hm), Or.inl⟩)
  rw [this]
theorem put_new {X R : List Rn} {n : Int} (hX : form 1 X) (hn : 1 ≤ n ∧ n ≤ 1000000000) (hR : UnionOf X [⟨n, n⟩] R) (hm : ¬ mem X n) : sz R = sz X + 1 := by
  have := sz_parts hX (only_form n hn) hR.1 (fun x => by
    rw [hR.2 x, mem_only n x hn]
    exact ⟨Iff.rfl, fun h => hm (by rw [← h.2]; exact h.1)⟩)
  rw [sz_only] at this
  exact this.symm
/-- what is left lies among the numbers Z -/
def DI (Z : List Int) (X : List Rn) : Prop := form 1 X ∧ ∀ x, mem X x → x ∈ Z
theorem DI.skip {Z : List Int} {X : List Rn} {n : Int} (h : DI (n :: Z) X) (hn : ¬ (1 ≤ n ∧ n ≤ 1000000000)) : DI Z X :=
  ⟨h.1, fun x hx => (List.mem_cons.1 (h.2 x hx)).elim (fun e => by subst e; exact absurd ⟨hx.1, hx.2.1⟩ hn) id⟩
theorem DI.drop {Z : List Int} {X R : List Rn} {n : Int} (h : DI (n :: Z) X) (hn : 1 ≤ n ∧ n ≤ 1000000000) (hR : MinusOf X [⟨n, n⟩] R) : DI Z R :=
  ⟨hR.1, fun x hx => by
    have h1 := (hR.2 x).1 hx
    rw [mem_only n x hn] at h1
    exact (List.mem_cons.1 (h.2 x h1.1)).elim (fun e => absurd e h1.2) id⟩
theorem DI.done {X : List Rn} (h : DI [] X) : X = [] := form_empty (Int.le_refl _) h.1 (fun n hn => by cases h.2 n hn)
end Go.Proofs.Ytclmgkjmimondaa
