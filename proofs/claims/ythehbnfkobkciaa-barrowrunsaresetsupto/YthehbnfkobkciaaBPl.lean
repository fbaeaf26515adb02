/- Plain: the laws of sets, over forms; literals and copies of lists. -/
import Derived.Test.YthehbnfkobkciaaRUo
import Derived.Test.YthehbnfkobkciaaRCn
import Derived.Test.YthehbnfkobkciaaRWi
import Derived.Test.YthehbnfkobkciaaRCo
namespace Go.Proofs.Ythehbnfkobkciaa
open Go.RowKit

theorem same_form {R S : List Rn} (h : form 1 R) (h' : form 1 S) (e : ∀ n, mem R n ↔ mem S n) : R = S := form_unique (Int.le_refl _) h h' e
theorem law_uc {A B U V : List Rn} (h : UnionOf A B U) (h' : UnionOf B A V) : V = U := same_form h'.1 h.1 (fun n => by rw [h.2 n, h'.2 n]; exact Or.comm)
theorem law_mc {A B U V : List Rn} (h : MeetOf A B U) (h' : MeetOf B A V) : V = U := same_form h'.1 h.1 (fun n => by rw [h.2 n, h'.2 n]; exact And.comm)
theorem law_dm {A B a d m V : List Rn} (ha : NormOf A a) (hd : MinusOf A B d) (hm : MeetOf A B m) (h : UnionOf d m V) : V = a := same_form h.1 ha.1 (fun n => by
  rw [h.2 n, ha.2 n, hd.2 n, hm.2 n]
  by_cases c : mem B n <;> simp [c])
theorem law_db {A B d V : List Rn} (hd : MinusOf A B d) (h : MeetOf d B V) : V = [] := form_empty (Int.le_refl _) h.1 (fun n hn => by
  have := (h.2 n).1 hn
  exact ((hd.2 n).1 this.1).2 this.2)
theorem law_mu {A B C U V d W : List Rn} (hU : UnionOf B C U) (hV : MinusOf A U V) (hd : MinusOf A B d) (hW : MinusOf d C W) : V = W := same_form hV.1 hW.1 (fun n => by
  rw [hV.2 n, hU.2 n, hW.2 n, hd.2 n]
  by_cases c : mem B n <;> by_cases c' : mem C n <;> simp [c, c'])
theorem law_md {A B C U V m N W : List Rn} (hU : UnionOf B C U) (hV : MeetOf A U V) (hm : MeetOf A B m) (hN : MeetOf A C N) (hW : UnionOf m N W) : V = W := same_form hV.1 hW.1 (fun n => by
  rw [hV.2 n, hU.2 n, hW.2 n, hm.2 n, hN.2 n]
  by_cases c : mem A n <;> simp [c])
theorem law_ud {A B C M V u N W : List Rn} (hM : MeetOf B C M) (hV : UnionOf A M V) (hu : UnionOf A B u) (hN : UnionOf A C N) (hW : MeetOf u N W) : V = W := same_form hV.1 hW.1 (fun n => by
  rw [hV.2 n, hM.2 n, hW.2 n, hu.2 n, hN.2 n]
  by_cases c : mem A n <;> simp [c])
theorem law_u3 {A B C c V u W : List Rn} (hV : form 1 V ∧ ∀ n, mem V n ↔ mem A n ∨ mem B n ∨ mem C n) (hu : UnionOf A B u) (hc : NormOf C c) (hW : UnionOf u c W) : V = W := same_form hV.1 hW.1 (fun n => by
  rw [hV.2 n, hW.2 n, hu.2 n, hc.2 n, or_assoc])
theorem law_s1 {A B a b u m : List Rn} {k1 k2 k3 k4 : Int} (ha : NormOf A a) (hb : NormOf B b) (hu : UnionOf A B u) (hm : MeetOf A B m) (h1 : SizeOf u k1) (h2 : SizeOf m k2) (h3 : SizeOf a k3) (h4 : SizeOf b k4) : k1 + k2 = k3 + k4 ∧ 0 ≤ k1 ∧ k1 ≤ 1000000000 ∧ 0 ≤ k2 ∧ k2 ≤ 1000000000 ∧ 0 ≤ k3 ∧ k3 ≤ 1000000000 ∧ 0 ≤ k4 ∧ k4 ≤ 1000000000 := by
  obtain ⟨_, g1, rfl⟩ := h1
  obtain ⟨_, g2, rfl⟩ := h2
  obtain ⟨_, g3, rfl⟩ := h3
  obtain ⟨_, g4, rfl⟩ := h4
  obtain rfl := g1.unique (NormOf.self hu.1)
  obtain rfl := g2.unique (NormOf.self hm.1)
  obtain rfl := g3.unique (NormOf.self ha.1)
  obtain rfl := g4.unique (NormOf.self hb.1)
  have e := sz_pairs hu.1 hm.1 ha.1 hb.1 (fun n => by
    rw [hu.2 n, hm.2 n, ha.2 n, hb.2 n]
    by_cases c : mem A n <;> by_cases c' : mem B n <;> simp [c, c'])
  have t1 := sz_top hu.1
  have t2 := sz_top hm.1
  have t3 := sz_top ha.1
  have t4 := sz_top hb.1
  exact ⟨e, t1.1, t1.2, t2.1, t2.2, t3.1, t3.2, t4.1, t4.2⟩
theorem law_s2 {A B d m : List Rn} {k1 k2 k3 : Int} (hd : MinusOf A B d) (hm : MeetOf A B m) (h1 : SizeOf d k1) (h2 : SizeOf m k2) (h3 : SizeOf A k3) : k1 + k2 = k3 ∧ 0 ≤ k1 ∧ k1 ≤ 1000000000 ∧ 0 ≤ k2 ∧ k2 ≤ 1000000000 := by
  obtain ⟨_, g1, rfl⟩ := h1
  obtain ⟨_, g2, rfl⟩ := h2
  obtain ⟨X, g3, rfl⟩ := h3
  obtain rfl := g1.unique (NormOf.self hd.1)
  obtain rfl := g2.unique (NormOf.self hm.1)
  have e := sz_parts hd.1 hm.1 g3.1 (fun n => by
    rw [hd.2 n, hm.2 n, g3.2 n]
    by_cases c : mem A n <;> by_cases c' : mem B n <;> simp [c, c'])
  have t1 := sz_top hd.1
  have t2 := sz_top hm.1
  exact ⟨e, t1.1, t1.2, t2.1, t2.2⟩
def slv (s : Sl) : Value := .slice s.ao s.n s.cap
theorem csrcL (W : World) (X : List Sl) (C : Array Value) (hC : C = (X.map slv).toArray) (T : TypeId) (n : Nat) (hl : X.length = n) (hs : ∀ s, s ∈ X → RSrc W s.ao s.n s.cap s.L) (hn : n ≤ 8796093022207) : CSrc (W.alloc (.cells C T)) (some ⟨W.heap.size, 0, none⟩) n X := by
  subst hC
  refine ⟨hl, fun h => (by cases h), fun ad h t s ht => ?_, fun s h => (hs s h).below (below_new _ _), hn⟩
  obtain rfl := Option.some.inj h
  rw [Addr.add_lit, Nat.zero_add, World.cell?_alloc_new]
  simp [ht, slv]
theorem own_lit (w : World) : OwnR w.heap.size w.heap.size w (w.alloc (.cells #[] 28)) (some ⟨w.heap.size, 0, none⟩) 0 [] :=
  ⟨⟨by simp [rcs], .inr ⟨w.heap.size, 0, _, rfl, Nat.le_refl _, heap_alloc_new w _, Nat.le_refl _, by unfold maxLen; omega, by simp, by simp [rcs]⟩⟩, below_new w _, by simp, Nat.le_refl _⟩
theorem row_zero {B0 B : Nat} {w w' : World} {ao : Option Addr} {cap n : Nat} {L : List Rn} (O : OwnR B0 B w w' ao cap ([] ++ L)) (hl : L.length = n) (hn : n ≤ 1048576) : RSrc w' ao n cap L := by
  have h := (O.src (by rw [List.nil_append, hl]; omega)).1
  have e : ([] ++ L).length = n := by rw [List.nil_append, hl]
  rw [e] at h
  exact h
/-- the union of two, the row of the two laid just ahead of the call -/
theorem union2_any (ao bo : Option Addr) (n cap m cap' : Nat) (A B : List Rn) (w : World) (hS : RSrc w ao n cap A) (hR : RSrc w bo m cap' B) (hlen : n + m ≤ 8796093022207) :
    Calls Try.prog 5 #[.slice (some ⟨w.heap.size, 0, none⟩) 2 2] (w.alloc (.cells #[.slice ao n cap, .slice bo m cap'] 22)) fun e w' => GivesR w w' e (UnionOf A B) := by
  have HB := below_new w (.cells #[.slice ao n cap, .slice bo m cap'] 22)
  refine (union_any w.heap.size ao bo n cap m cap' A B _ (hS.below HB) (hR.below HB) (by simp) (by simp) hlen).mono ?_
  rintro e w1 ⟨a1, n1, c1, R, rfl, S1, b1, p1⟩
  exact ⟨a1, n1, c1, R, rfl, S1, HB.trans (b1.mono HB.size), p1⟩
theorem union3_any (ao bo co : Option Addr) (n cap m cap' l cap2 : Nat) (A B C : List Rn) (w : World) (hS : RSrc w ao n cap A) (hR : RSrc w bo m cap' B) (hT : RSrc w co l cap2 C) (hlen : n + m + l ≤ 8796093022207) :
    Calls Try.prog 5 #[.slice (some ⟨w.heap.size, 0, none⟩) 3 3] (w.alloc (.cells #[.slice ao n cap, .slice bo m cap', .slice co l cap2] 22)) fun e w' => GivesR w w' e (fun R => form 1 R ∧ ∀ x, mem R x ↔ mem A x ∨ mem B x ∨ mem C x) := by
  have HB := below_new w (.cells #[.slice ao n cap, .slice bo m cap', .slice co l cap2] 22)
  refine (unionN_any _ 3 3 [⟨ao, n, cap, A⟩, ⟨bo, m, cap', B⟩, ⟨co, l, cap2, C⟩] _ (csrcL w _ _ rfl 22 3 rfl (fun s hs => by
    simp only [List.mem_cons, List.not_mem_nil, or_false] at hs
    rcases hs with rfl | rfl | rfl
    · exact hS
    · exact hR
    · exact hT) (by omega)) (by simp [tot]; omega)).mono ?_
  rintro e w1 ⟨a1, n1, c1, R, rfl, S1, b1, p1⟩
  refine ⟨a1, n1, c1, R, rfl, S1, HB.trans (b1.mono HB.size), p1.1, fun x => ?_⟩
  rw [p1.2 x]
  simp
theorem lit_union {R : List Rn} (h : UnionOf [⟨4, 6⟩] [⟨9, 9⟩, ⟨1, 3⟩] R) : R = [⟨1, 6⟩, ⟨9, 9⟩] := same_form h.1 ⟨by decide, by decide, by decide, by decide, by decide, by decide, trivial⟩ (fun n => by
  rw [h.2 n, mem_one, mem_cons, mem_one, mem_cons, mem_one]
  simp only
  omega)
end Go.Proofs.Ythehbnfkobkciaa
