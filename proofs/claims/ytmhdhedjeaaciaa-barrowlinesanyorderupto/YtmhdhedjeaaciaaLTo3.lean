/- BarrowLinesAnyOrder, plain; three rows that grow side by side. -/
import Derived.Test.YtmhdhedjeaaciaaLTs
import Derived.Test.YtmhdhedjeaaciaaLTa
import Derived.Test.YtmhdhedjeaaciaaLSp
import Derived.Test.YtmhdhedjeaaciaaLLi
namespace Go.Proofs.Ytmhdhedjeaaciaa
open Go.RowKit

/-- the first k entries are in form, and no two of them clash -/
def GoodN (L : List En) (k : Nat) : Prop := (∀ t, t < k → ceE (L.getD t en0) = 0) ∧ ∀ t, t < k → ∀ j, j < t → sameDot (L.getD j en0) (L.getD t en0) = true → L.getD j en0 = L.getD t en0
theorem goodN_zero (L : List En) : GoodN L 0 := ⟨fun t h => absurd h (by omega), fun t h => absurd h (by omega)⟩
/-- b tells whether p -/
def GB (b : Bool) (p : Prop) : Prop := b = true ↔ p
/-- the first k are good, the next entry is in form, and clashes with none of the first j -/
def InG (L : List En) (k : Nat) (e : En) (j : Nat) : Prop := GoodN L k ∧ ceE e = 0 ∧ ∀ t, t < j → sameDot (L.getD t en0) e = true → L.getD t en0 = e
theorem goodN_step {L : List En} {k : Nat} {e : En} {gc : Bool} (he : L.getD k en0 = e) (h : GB gc (InG L k e k)) : GB gc (GoodN L (k + 1)) := by
  refine Iff.trans h ?_
  subst he
  constructor
  · rintro ⟨⟨ha, hb⟩, hc, hd⟩
    refine ⟨fun t ht => ?_, fun t ht j hj hs => ?_⟩
    · by_cases e : t = k
      · subst e; exact hc
      · exact ha t (by omega)
    · by_cases e : t = k
      · subst e; exact hd j hj hs
      · exact hb t (by omega) j hj hs
  · rintro ⟨ha, hb⟩
    exact ⟨⟨fun t ht => ha t (by omega), fun t ht => hb t (by omega)⟩, ha k (by omega), fun t ht hs => hb k (by omega) t ht hs⟩
theorem gb_start {L : List En} {k : Nat} {e : En} {g0 : Bool} (hg : GoodN L k) (h : g0 = true ↔ ceE e = 0) : GB g0 (InG L k e 0) := ⟨fun h' => ⟨hg, h.1 h', fun t ht => absurd ht (by omega)⟩, fun h' => h.2 h'.2.1⟩
theorem gb_no {L : List En} {k : Nat} {e : En} (h : GB false (GoodN L k)) : GB false (InG L k e 0) := ⟨(fun h' => by cases h'), fun h' => h.2 h'.1⟩
theorem gb_false {L : List En} {k j : Nat} {e : En} (h : GB false (InG L k e j)) : GB false (InG L k e (j + 1)) := ⟨(fun h' => by cases h'), fun h' => h.2 ⟨h'.1, h'.2.1, fun t ht => h'.2.2 t (by omega)⟩⟩
theorem gb_miss {L : List En} {k j : Nat} {e f : En} (h : GB true (InG L k e j)) (hf : L.getD j en0 = f) (hd : sameDot f e = false) : GB true (InG L k e (j + 1)) := by
  obtain ⟨h1, h2, h3⟩ := h.1 rfl
  refine ⟨fun _ => ⟨h1, h2, fun t ht hs => ?_⟩, fun _ => rfl⟩
  by_cases hq : t = j
  · subst hq; rw [hf, hd] at hs; cases hs
  · exact h3 t (by omega) hs
theorem gb_hit {L : List En} {k j : Nat} {e f : En} {q : Bool} (h : GB true (InG L k e j)) (hf : L.getD j en0 = f) (hd : sameDot f e = true) (hq : eqE f e = q) : GB q (InG L k e (j + 1)) := by
  obtain ⟨h1, h2, h3⟩ := h.1 rfl
  unfold GB
  rw [← hq, eqE_iff]
  constructor
  · intro hfe
    refine ⟨h1, h2, fun t ht hs => ?_⟩
    by_cases hq : t = j
    · subst hq; rw [hf]; exact hfe
    · exact h3 t (by omega) hs
  · intro h'
    have := h'.2.2 j (by omega) (by rw [hf]; exact hd)
    rwa [hf] at this
theorem goodN_iff (L : List En) : GoodN L L.length ↔ (∀ e ∈ L, ceE e = 0) ∧ ¬ Clash L := by
  have at' : ∀ x ∈ L, ∃ i, i < L.length ∧ L.getD i en0 = x := fun x hx => by
    obtain ⟨i, hi, rfl⟩ := List.getElem_of_mem hx
    exact ⟨i, hi, by simp [List.getD, hi]⟩
  constructor
  · rintro ⟨ha, hb⟩
    refine ⟨fun e he => ?_, ?_⟩
    · obtain ⟨i, hi, rfl⟩ := at' e he; exact ha i hi
    · rintro ⟨x, hx, y, hy, hs, hne⟩
      obtain ⟨i, hi, rfl⟩ := at' x hx
      obtain ⟨j, hj, rfl⟩ := at' y hy
      rcases Nat.lt_trichotomy i j with h | h | h
      · exact hne (hb j hj i h hs)
      · subst h; exact hne rfl
      · rw [same_symm] at hs; exact hne (hb i hi j h hs).symm
  · rintro ⟨ha, hb⟩
    refine ⟨fun t ht => ha _ (getD_mem L t ht), fun t ht j hj hs => Classical.byContradiction fun hne => hb ⟨_, getD_mem L j (by omega), _, getD_mem L t ht, hs, hne⟩⟩
theorem ok_one (e : En) : okN [e] [e].length = (ceE e == 0) := by
  simp [okN, okAt, List.range_succ]
theorem one_src {w w' : World} {ad : Addr} {n cap k : Nat} {L : List En} {e : En} {c : Nat} (A : EnAt w' (ad.add (k * 4)) e) (hS : ESrc w (some ad) n cap L) (hk : k < n) (he : L.getD k en0 = e) : ESrc w' (some (ad.add (k * 4))) 1 c [e] := by
  refine ⟨rfl, fun h => (by cases h), fun ad' h t ht => ?_, fun x hx => ?_, by omega⟩
  · obtain rfl := Option.some.inj h
    obtain rfl : t = 0 := by omega
    rw [Nat.zero_mul, add_zero]; exact A
  · simp at hx; subst hx; rw [← he]; exact hS.sku k hk
def teaL : List En := [⟨0, 1, bTea, 2⟩, ⟨1, 2, bMug, 5⟩]
def teaR : List Ln := [⟨bMug, 5, 1⟩, ⟨bTea, 2, 1⟩]
theorem tea_le : bTea.size ≤ maxLen := by unfold maxLen; have : bTea.size = 3 := rfl; omega
theorem mug_le : bMug.size ≤ maxLen := by unfold maxLen; have : bMug.size = 5 := rfl; omega
theorem teaL_sku : ∀ e ∈ teaL, e.sku.size ≤ maxLen := by
  intro e he; simp only [teaL, List.mem_cons, List.not_mem_nil, or_false] at he; rcases he with rfl | rfl
  · exact tea_le
  · exact mug_le
theorem teaR_sku : ∀ e ∈ teaR, e.sku.size ≤ maxLen := by
  intro e he; simp only [teaR, List.mem_cons, List.not_mem_nil, or_false] at he; rcases he with rfl | rfl
  · exact mug_le
  · exact tea_le
theorem tea_chk : chk teaL = 0 := by decide +kernel
theorem tea_lines : LinesOf teaL teaR 0 := by
  have aa : eqS bTea bTea = true := (eqS_iff _ _).2 rfl
  have bb : eqS bMug bMug = true := (eqS_iff _ _).2 rfl
  have ab : eqS bTea bMug = false := (eqS_no _ _).2 (by decide)
  have ba : eqS bMug bTea = false := (eqS_no _ _).2 (by decide)
  have h1 : lineOf teaL bTea = ⟨bTea, 2, 1⟩ := by simp [lineOf, ofS, teaL, List.filter, aa, ba, addL, ln0]
  have h2 : lineOf teaL bMug = ⟨bMug, 5, 1⟩ := by simp [lineOf, ofS, teaL, List.filter, bb, ab, addL, ln0]
  refine Or.inr ⟨tea_chk, rfl, ?_, fun l => ?_⟩
  · refine List.pairwise_cons.2 ⟨fun y hy => ?_, List.pairwise_singleton _ _⟩
    simp at hy; subst hy; decide
  · simp only [teaR, teaL, List.mem_cons, List.not_mem_nil, or_false]
    constructor
    · rintro (rfl | rfl)
      · exact ⟨⟨1, 2, bMug, 5⟩, Or.inr rfl, h2.symm⟩
      · exact ⟨⟨0, 1, bTea, 2⟩, Or.inl rfl, h1.symm⟩
    · rintro ⟨e, rfl | rfl, rfl⟩
      · exact Or.inr h1
      · exact Or.inl h2
theorem lit_lsrc (w : World) (L : List Ln) (C : Array Value) (hC : C = (L.map (fun e => (LC e).toList)).flatten.toArray) (T : TypeId) (n : Nat) (hn : L.length = n) (hs : ∀ e ∈ L, e.sku.size ≤ maxLen) (hm : n ≤ 3518437208883) :
    LSrc (w.alloc (.cells C T)) (some ⟨w.heap.size, 0, none⟩) n n L := by
  subst hC hn
  have key : ∀ (L : List Ln) (t j : Nat), t < L.length → j < 3 → ((L.map (fun e => (LC e).toList)).flatten)[t * 3 + j]? = (LC (L.getD t ln0)).toList[j]? := by
    intro L
    induction L with
    | nil => intro t j ht; simp at ht
    | cons a L ih =>
      intro t j ht hj
      cases t with
      | zero => rw [List.map_cons, List.flatten_cons, List.getElem?_append_left (by simp [LC]; omega)]; simp [List.getD]
      | succ t =>
        rw [List.map_cons, List.flatten_cons, List.getElem?_append_right (by simp [LC]; omega)]
        have h := ih t j (by simpa using ht) hj
        have e4 : (t + 1) * 3 + j - (LC a).toList.length = t * 3 + j := by simp [LC]; omega
        rw [e4, h]; simp [List.getD]
  have cell : ∀ t j, t < L.length → j < 3 → (w.alloc (.cells (L.map (fun e => (LC e).toList)).flatten.toArray T)).cell? ⟨w.heap.size, t * 3 + j, none⟩ = (LC (L.getD t ln0)).toList[j]? := by
    intro t j ht hj
    rw [World.cell?_alloc_new, List.getElem?_toArray, key L t j ht hj]
  refine ⟨rfl, fun h => (by cases h), fun ad h t ht => ?_, hs, hm⟩
  obtain rfl := Option.some.inj h
  refine ⟨?_, ?_, ?_⟩
  · rw [Addr.add_lit, Nat.zero_add]; exact cell t 0 ht (by omega)
  · rw [Addr.add_lit, Addr.add_lit, Nat.zero_add]; exact cell t 1 ht (by omega)
  · rw [Addr.add_lit, Addr.add_lit, Nat.zero_add]; exact cell t 2 ht (by omega)
/-- a row that holds nothing yet, made -/
theorem OwnE.empty {B0 B : Nat} {w w' : World} (hb : Below B0 w w') (hB : B ≤ w'.heap.size) (h0 : B0 ≤ B) : OwnE B0 B w (w'.alloc (.cells #[] 40)) (some ⟨w'.heap.size, 0, none⟩) 0 [] := by
  refine ⟨⟨rfl, Or.inr ⟨w'.heap.size, 0, #[], rfl, hB, heap_alloc_new _ _, Nat.le_refl _, Nat.zero_le _, rfl, rfl⟩⟩, hb.alloc (by omega) _, by simp; omega, h0⟩
theorem OwnE.other {B0 B : Nat} {w w' w2 : World} {ao : Option Addr} {cap : Nat} {acc : List En} (O : OwnE B0 B w w' ao cap acc) (hk : ∀ ad, ao = some ad → w2.heap[ad.block]? = w'.heap[ad.block]?) (hb : Below B0 w w2) (hB : B ≤ w2.heap.size) : OwnE B0 B w w2 ao cap acc := by
  refine ⟨⟨O.own.1, ?_⟩, hb, hB, O.hB0⟩
  rcases O.own.2 with h | ⟨g, cap2, cur, hv, hbg, hgg, r⟩
  · exact Or.inl h
  · refine Or.inr ⟨g, cap2, cur, hv, hbg, ?_, r⟩
    simp only [Value.slice.injEq] at hv
    have := hk ⟨g, 0, none⟩ hv.1
    exact this.trans hgg
/-- three rows and a row of numbers, each in a block of its own -/
structure R3 (B : Nat) (w wr : World) (a1 : Option Addr) (c1 : Nat) (L1 : List En) (a2 : Option Addr) (c2 : Nat) (L2 : List En) (a3 : Option Addr) (c3 : Nat) (L3 : List En) (gP : Nat) (F : Array Int) : Prop where
  o1 : OwnE B B w wr a1 c1 L1
  o2 : OwnE B B w wr a2 c2 L2
  o3 : OwnE B B w wr a3 c3 L3
  ia : IA wr gP F
  d12 : ∀ a b, a1 = some a → a2 = some b → a.block ≠ b.block
  d13 : ∀ a b, a1 = some a → a3 = some b → a.block ≠ b.block
  d23 : ∀ a b, a2 = some a → a3 = some b → a.block ≠ b.block
  p1 : ∀ a, a1 = some a → a.block ≠ gP
  p2 : ∀ a, a2 = some a → a.block ≠ gP
  p3 : ∀ a, a3 = some a → a.block ≠ gP
section
variable {B : Nat} {w wr w2 : World} {a1 a2 a3 : Option Addr} {c1 c2 c3 : Nat} {L1 L2 L3 : List En} {gP : Nat} {F : Array Int} {e : En} {g c : Nat}
theorem R3.rot (H : R3 B w wr a1 c1 L1 a2 c2 L2 a3 c3 L3 gP F) : R3 B w wr a2 c2 L2 a3 c3 L3 a1 c1 L1 gP F :=
  ⟨H.o2, H.o3, H.o1, H.ia, H.d23, fun a b ha hb => (H.d12 b a hb ha).symm, fun a b ha hb => (H.d13 b a hb ha).symm, H.p2, H.p3, H.p1⟩
theorem R3.push (H : R3 B w wr a1 c1 L1 a2 c2 L2 a3 c3 L3 gP F) (O : OwnE B B w w2 (some ⟨g, 0, none⟩) c (L1 ++ [e])) (hk : ∀ k, k < wr.heap.size → (∀ ad, a1 = some ad → ad.block ≠ k) → w2.heap[k]? = wr.heap[k]?) (hb : (∃ ad, a1 = some ad ∧ ad.block = g) ∨ wr.heap.size < g) :
    R3 B w w2 (some ⟨g, 0, none⟩) c (L1 ++ [e]) a2 c2 L2 a3 c3 L3 gP F := by
  have fresh : ∀ k, k < wr.heap.size → (∀ ad, a1 = some ad → ad.block ≠ k) → g ≠ k := fun k h1 h2 => by
    rcases hb with ⟨ad, h3, h4⟩ | h3
    · rw [← h4]; exact h2 ad h3
    · omega
  refine ⟨O, H.o2.other (fun ad ha => hk _ (H.o2.lt ad ha) (fun b hb' => H.d12 b ad hb' ha)) O.below O.hB, H.o3.other (fun ad ha => hk _ (H.o3.lt ad ha) (fun b hb' => H.d13 b ad hb' ha)) O.below O.hB, ?_, ?_, ?_, H.d23, ?_, H.p2, H.p3⟩
  · exact (hk gP H.ia.lt H.p1).trans H.ia
  · intro a b ha hb'
    obtain rfl := Option.some.inj ha
    exact fresh _ (H.o2.lt b hb') (fun x hx => H.d12 x b hx hb')
  · intro a b ha hb'
    obtain rfl := Option.some.inj ha
    exact fresh _ (H.o3.lt b hb') (fun x hx => H.d13 x b hx hb')
  · intro a ha
    obtain rfl := Option.some.inj ha
    exact fresh _ H.ia.lt H.p1
end
theorem r3_start (w5 w6 : World) (gP : Nat) (F : Array Int) (b : Below (((w5.alloc (.cells #[] 40)).alloc (.cells #[] 40)).alloc (.cells #[] 40)).heap.size (((w5.alloc (.cells #[] 40)).alloc (.cells #[] 40)).alloc (.cells #[] 40)) w6) (hI : IA w6 gP F) (hg : (((w5.alloc (.cells #[] 40)).alloc (.cells #[] 40)).alloc (.cells #[] 40)).heap.size ≤ gP) :
    R3 w5.heap.size w5 w6 (some ⟨w5.heap.size, 0, none⟩) 0 [] (some ⟨w5.heap.size + 1, 0, none⟩) 0 [] (some ⟨w5.heap.size + 1 + 1, 0, none⟩) 0 [] gP F := by
  have x1 := below_new w5 (.cells #[] 40)
  have x2 := below_new (w5.alloc (.cells #[] 40)) (.cells #[] 40)
  have x3 := below_new ((w5.alloc (.cells #[] 40)).alloc (.cells #[] 40)) (.cells #[] 40)
  have o1 := (((OwnE.empty (Below.refl w5.heap.size w5) (Nat.le_refl _) (Nat.le_refl _)).later x2).later x3).later b
  have o2 := ((OwnE.empty (B := w5.heap.size) x1 x1.size (Nat.le_refl _)).later x3).later b
  have o3 := (OwnE.empty (B := w5.heap.size) (x1.trans (x2.mono x1.size)) (Nat.le_trans x1.size x2.size) (Nat.le_refl _)).later b
  simp only [World.size_alloc] at o2 o3 hg
  refine ⟨o1, o2, o3, hI, ?_, ?_, ?_, ?_, ?_, ?_⟩
  · intro a b ha hb; obtain rfl := Option.some.inj ha; obtain rfl := Option.some.inj hb; simp
  · intro a b ha hb; obtain rfl := Option.some.inj ha; obtain rfl := Option.some.inj hb; simp; omega
  · intro a b ha hb; obtain rfl := Option.some.inj ha; obtain rfl := Option.some.inj hb; simp
  · intro a ha; obtain rfl := Option.some.inj ha; simp; omega
  · intro a ha; obtain rfl := Option.some.inj ha; simp; omega
  · intro a ha; obtain rfl := Option.some.inj ha; simp; omega
/-- what the rows hold behind q rounds -/
structure MI (L : List En) (P : List Int) (q : Nat) (Mx Le Ri : List En) : Prop where
  m : ∀ x, x ∈ Mx ↔ ∃ t, t < q ∧ x = L.getD (P.getD t 0).toNat en0
  h : ∀ x, x ∈ Le ∨ x ∈ Ri ↔ ∃ t, t < q ∧ x = L.getD (P.getD t 0).toNat en0
  n : Mx.length ≤ 2 * q ∧ Le.length ≤ q ∧ Ri.length ≤ q
theorem mi_start (L : List En) (P : List Int) : MI L P 0 [] [] [] := ⟨fun x => by simp, fun x => by simp, by simp⟩
theorem ex_succ {q : Nat} {f : Nat → En} {x : En} : (∃ t, t < q + 1 ∧ x = f t) ↔ (∃ t, t < q ∧ x = f t) ∨ x = f q := by
  constructor
  · rintro ⟨t, ht, rfl⟩
    by_cases e : t = q
    · subst e; exact Or.inr rfl
    · exact Or.inl ⟨t, by omega, rfl⟩
  · rintro (⟨t, ht, rfl⟩ | rfl)
    · exact ⟨t, by omega, rfl⟩
    · exact ⟨q, by omega, rfl⟩
theorem MI.step {L : List En} {P : List Int} {q : Nat} {Mx Le Ri Mx' Le' Ri' : List En} {e : En} (H : MI L P q Mx Le Ri) (he : L.getD (P.getD q 0).toNat en0 = e) (hm : ∀ x, x ∈ Mx' ↔ x ∈ Mx ∨ x = e) (hh : ∀ x, (x ∈ Le' ∨ x ∈ Ri') ↔ (x ∈ Le ∨ x ∈ Ri) ∨ x = e) (hn : Mx'.length ≤ 2 * (q + 1) ∧ Le'.length ≤ q + 1 ∧ Ri'.length ≤ q + 1) : MI L P (q + 1) Mx' Le' Ri' :=
  ⟨fun x => by rw [hm, H.m, ex_succ (f := fun t => L.getD (P.getD t 0).toNat en0), he], fun x => by rw [hh, H.h, ex_succ (f := fun t => L.getD (P.getD t 0).toNat en0), he], hn⟩
theorem MI.done {L : List En} {P : List Int} {Mx Le Ri : List En} (hp : P.Perm ((List.range L.length).map (fun t : Nat => (t : Int)))) (H : MI L P L.length Mx Le Ri) : (∀ x, x ∈ Mx ↔ x ∈ L) ∧ ∀ x, (x ∈ Le ∨ x ∈ Ri) ↔ x ∈ L := by
  have hlen : P.length = L.length := by rw [hp.length_eq]; simp
  have key : ∀ x, (∃ t, t < L.length ∧ x = L.getD (P.getD t 0).toNat en0) ↔ x ∈ L := fun x => by
    constructor
    · rintro ⟨t, ht, rfl⟩
      have h1 : P.getD t 0 ∈ P := by rw [show P.getD t 0 = P[t]'(by omega) by simp [List.getD, hlen, ht]]; exact List.getElem_mem _
      obtain ⟨s, hs, hse⟩ := List.mem_map.1 (hp.mem_iff.1 h1)
      rw [← hse, Int.toNat_natCast]
      exact getD_mem L s (List.mem_range.1 hs)
    · intro hx
      obtain ⟨i, hi, rfl⟩ := List.getElem_of_mem hx
      have h1 : (i : Int) ∈ P := hp.mem_iff.2 (List.mem_map.2 ⟨i, List.mem_range.2 hi, rfl⟩)
      obtain ⟨t, ht, hte⟩ := List.getElem_of_mem h1
      refine ⟨t, by omega, ?_⟩
      rw [show P.getD t 0 = P[t] by simp [List.getD, ht], hte, Int.toNat_natCast]
      simp [List.getD, hi]
  exact ⟨fun x => (H.m x).trans (key x), fun x => (H.h x).trans (key x)⟩
theorem perm_at {P : List Int} {n : Nat} (hp : P.Perm ((List.range n).map (fun t : Nat => (t : Int)))) (q : Nat) (hq : q < n) : ∃ k : Nat, k < n ∧ P.getD q 0 = (k : Int) := by
  have hlen : P.length = n := by rw [hp.length_eq]; simp
  have h1 : P.getD q 0 ∈ P := by rw [show P.getD q 0 = P[q]'(by omega) by simp [List.getD, hlen, hq]]; exact List.getElem_mem _
  obtain ⟨s, hs, hse⟩ := List.mem_map.1 (hp.mem_iff.1 h1)
  exact ⟨s, List.mem_range.1 hs, hse.symm⟩
end Go.Proofs.Ytmhdhedjeaaciaa
