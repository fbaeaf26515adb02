/- RSz RPk RCo RLd PCl QFm -/
import Derived.Test.YtmbkmpeongodbaaGreatAr06
import Derived.Test.YtmbkmpeongodbaaGreatAr01
import Derived.Test.YtmbkmpeongodbaaGreatAr04
namespace Go.Proofs.YtmbkmpeongodbaaGreat
open Go.RowKit
attribute [local go_sem ↓] ldR_eq stR_eq
attribute [local go_sem] zero_RC cells_RV RC_size fold_RC
theorem RSrc.tail' {w : World} {b o m c : Nat} {r : Rn} {L : List Rn} (h : RSrc w (some ⟨b, o, none⟩) m c (r :: L)) : RSrc w (if c = 1 then some ⟨b, o, none⟩ else some ⟨b, o + 2, none⟩) (m - 1) (c - 1) L := by
  by_cases e : c = 1
  · rw [if_pos e]
    have h1 := h.len
    have h2 := h.cap
    simp at h1
    exact ⟨by omega, fun e => (by cases e), fun ad ha t ht => by omega, by omega, by omega, by omega⟩
  · rw [if_neg e]
    exact h.tail
theorem length_any (r : Rn) (w : World) (h1 : 1 ≤ r.lo) (h2 : r.hi ≤ 1000000000) (h3 : r.lo ≤ r.hi) : Calls Tryz.prog 120 #[RV r] w fun e w' => e = .returned (.int .i64 (r.hi - r.lo + 1)) ∧ Below w.heap.size w w' := by
  have HB := hide (below_new w (.cells (RC r) 143))
  have X1 := box_new w 143 r
  have c0 := X1.at.c0
  have c1 : (w.alloc (.cells (RC r) 143)).cell? ⟨w.heap.size, 1, none⟩ = some (.int .i64 r.hi) := X1.at.c1
  have e1 : IntKind.i64.wrap (r.hi - r.lo) = r.hi - r.lo := by rw [IntKind.wrap_i64]; omega
  have e2 : IntKind.i64.wrap (r.hi - r.lo + 1) = r.hi - r.lo + 1 := by rw [IntKind.wrap_i64]; omega
  clear X1
  go_enter Tryz.func120, Tryz.ntmps120
  go_wp2_with fail
  go_ret
  exact ⟨by simp, HB.out⟩
theorem form_at : ∀ {a : List Rn} {l : Int} (k : Nat), 1 ≤ l → form l a → k < a.length → 1 ≤ (a.getD k rn0).lo ∧ (a.getD k rn0).lo ≤ (a.getD k rn0).hi ∧ (a.getD k rn0).hi ≤ 1000000000
  | r :: a, l, 0, hl, h, _ => by have := h.1; have := h.2.1; have := h.2.2.1; simp [List.getD]; omega
  | r :: a, l, k + 1, hl, h, hk => by
    have := form_at k (l := r.hi + 2) (by have := h.1; have := h.2.1; omega) h.2.2.2 (by simpa using hk)
    simpa [List.getD] using this
/-- how many numbers the set has -/
def SizeOf (A : List Rn) (k : Int) : Prop := ∃ R, NormOf A R ∧ k = sz R
set_option maxRecDepth 100000 in
set_option maxHeartbeats 4000000 in
theorem size_any (ao : Option Addr) (n cap : Nat) (A : List Rn) (w : World) (hS : RSrc w ao n cap A) :
    Calls Tryz.prog 83 #[.slice ao n cap] w fun e w' => ∃ k, e = .returned (.int .i64 k) ∧ SizeOf A k ∧ Below w.heap.size w w' := by
  have HS := hide hS
  clear hS
  go_enter Tryz.func83, Tryz.ntmps83
  go_wp2_with fail
  refine (norm_any ao n cap A _ HS.out).mono ?_
  rintro e w1 ⟨a1, n1, c1, X, rfl, S1, b1, p1⟩
  have HS1 := hide S1
  have HP1 := hide p1
  have HB1 := hide b1
  have HL : Hid (X.length = n1) := S1.len
  have hn := S1.big
  have hz := sz_bd p1.1
  have HZ := hide hz.2.1
  have hz0 : sz X ≤ 1000000000 := by
    rcases hz.2.1 with e | e
    · rw [e]; simp [sz]
    · omega
  clear S1 b1 p1 hz
  go_wp2_with fail
  go_loopw [3, 5, 9] (fun v _ i wr => ∃ (k : Nat), k ≤ n1 ∧ v = .int .i64 (sz (X.take k)) ∧ i = .int .i64 k ∧ Hid (Below w1.heap.size w1 wr)) (fun _ _ i _ => n1 - (intOf i).toNat)
  case atStart => exact ⟨0, Nat.zero_le _, rfl, rfl, Below.refl _ _⟩
  case round =>
    obtain ⟨k, hk, rfl, rfl, H⟩ := hrel
    rename World => w4
    have hs1 := sz_take X 1 k HP1.out.1
    by_cases hlt : k < n1
    · obtain ⟨ad, rfl, A0⟩ := (HS1.out.below H.out).at k hlt
      have hld := run_ldR A0
      have hfa := form_at k (Int.le_refl _) HP1.out.1 (by rw [HL.out]; exact hlt)
      obtain ⟨r, Hr⟩ : ∃ r, Hid (X.getD k rn0 = r) := ⟨_, rfl⟩
      rw [Hr.out] at hld hfa
      have hkl : k < X.length := by rw [HL.out]; exact hlt
      have hs2 := sz_take X 1 (k + 1) HP1.out.1
      have HT : Hid (sz (X.take (k + 1)) = sz (X.take k) + (r.hi - r.lo + 1)) := by
        show _ = _
        rw [List.take_succ_eq_append_getElem hkl, sz_append, show X[k] = r by rw [← Hr.out]; simp [List.getD, hkl]]
        simp [sz]
      have hT := HT.out
      obtain ⟨s, hs⟩ : ∃ s, sz (X.take k) = s := ⟨_, rfl⟩
      rw [hs] at hs1 hT ⊢
      have HSS := hide hs
      have hw1 : IntKind.i64.wrap (s + (r.hi - r.lo + 1)) = s + (r.hi - r.lo + 1) := by rw [IntKind.wrap_i64]; omega
      obtain ⟨w5, hst, X5, B5, Z5⟩ := made w4 r w4.heap.size rfl
      have lx := run_ldR X5.at
      have HB5 := hide (H.out.trans (B5.mono H.out.size))
      have HLN := hide (length_any r w5 hfa.1 hfa.2.2 hfa.2.1)
      clear A0 X5 B5 Z5 hkl hT hs hs2 hfa
      go_wp2_with fail
      refine HLN.out.mono ?_
      rintro e w6 ⟨rfl, b6⟩
      have HB6 := hide (HB5.out.trans (b6.mono HB5.out.size))
      clear b6
      go_wp2_with fail
      go_roundw
      case rel => exact ⟨k + 1, by omega, by rw [HT.out, HSS.out], by go_num, HB6⟩
      case measure => simp [intOf]; omega
    · obtain rfl : k = n1 := by omega
      have HF : Hid (SizeOf A (sz (X.take k))) := ⟨X, HP1.out, by rw [List.take_of_length_le (by rw [HL.out]; exact Nat.le_refl _)]⟩
      have HBF := hide (HB1.out.trans (H.out.mono HB1.out.size))
      go_wp2_with fail
      go_ret
      exact ⟨_, rfl, HF.out, HBF.out⟩
end Go.Proofs.YtmbkmpeongodbaaGreat
namespace Go.Proofs.YtmbkmpeongodbaaGreat

def pick : List Rn → Int → Int
  | [], _ => 0
  | r :: a, k => if k ≤ r.hi - r.lo + 1 then r.lo + k - 1 else pick a (k - (r.hi - r.lo + 1))
def pk (a : List Rn) (k : Int) : Int := if k < 1 then 0 else pick a k
def cutTo : List Rn → Int → List Rn
  | [], _ => []
  | r :: a, n => if n < r.lo then [] else if n ≤ r.hi then [⟨r.lo, n⟩] else r :: cutTo a n
def rk (a : List Rn) (n : Int) : Int := sz (cutTo a n)
def fst : List Rn → Int → Int
  | [], _ => 0
  | r :: a, f => if f ≤ r.hi then max r.lo f else fst a f
theorem cutTo_form : ∀ {a : List Rn} {l : Int} (n : Int), form l a → form l (cutTo a n)
  | [], _, _, _ => trivial
  | r :: a, l, n, h => by
    unfold cutTo
    split
    · trivial
    · split
      · exact ⟨h.1, by simp only; omega, by have := h.2.2.1; simp only; omega, trivial⟩
      · exact ⟨h.1, h.2.1, h.2.2.1, cutTo_form n h.2.2.2⟩
theorem cutTo_mem : ∀ {a : List Rn} {l : Int} (n : Int), form l a → ∀ m, mem (cutTo a n) m ↔ mem a m ∧ m ≤ n
  | [], _, _, _, m => ⟨fun h => absurd h (mem_nil m), fun h => h.1⟩
  | r :: a, l, n, h, m => by
    have hs : form r.lo (r :: a) := ⟨Int.le_refl _, h.2⟩
    have ih := cutTo_mem n h.2.2.2 m
    unfold cutTo
    split
    · constructor
      · exact fun e => absurd e (mem_nil m)
      · rintro ⟨e, h2⟩
        have := form_ge hs e
        omega
    · split
      · rw [mem_one, mem_cons]
        simp only
        constructor
        · rintro ⟨h1, h2, h3, h4⟩
          exact ⟨Or.inl ⟨h1, h2, h3, by omega⟩, h4⟩
        · rintro ⟨e | e, h2⟩
          · exact ⟨e.1, e.2.1, e.2.2.1, h2⟩
          · have := form_ge h.2.2.2 e
            omega
      · rw [mem_cons, mem_cons, ih]
        constructor
        · rintro (e | e)
          · exact ⟨Or.inl e, by omega⟩
          · exact ⟨Or.inr e.1, e.2⟩
        · rintro ⟨e | e, h2⟩
          · exact Or.inl e
          · exact Or.inr ⟨e, h2⟩
theorem rk_low {a : List Rn} {l n : Int} (h : form l a) (hn : n < l) : rk a n = 0 := by
  cases a with
  | nil => rfl
  | cons r a => unfold rk cutTo; rw [if_pos (by have := h.1; omega)]; rfl
theorem rk_before {r : Rn} {a : List Rn} {n : Int} (hn : n < r.lo) : rk (r :: a) n = 0 := by
  unfold rk cutTo; rw [if_pos hn]; rfl
theorem rk_in {r : Rn} {a : List Rn} {n : Int} (h1 : r.lo ≤ n) (h2 : n ≤ r.hi) : rk (r :: a) n = n - r.lo + 1 := by
  unfold rk cutTo; rw [if_neg (by omega), if_pos h2]; simp [sz]
theorem rk_past {r : Rn} {a : List Rn} {n : Int} (h1 : r.lo ≤ r.hi) (h2 : r.hi < n) : rk (r :: a) n = (r.hi - r.lo + 1) + rk a n := by
  unfold rk; rw [cutTo, if_neg (by omega), if_neg (by omega)]; simp [sz]
theorem pick_in {r : Rn} {a : List Rn} {k : Int} (h : k ≤ r.hi - r.lo + 1) : pick (r :: a) k = r.lo + k - 1 := by rw [pick, if_pos h]
theorem pick_past {r : Rn} {a : List Rn} {k : Int} (h : ¬ k ≤ r.hi - r.lo + 1) : pick (r :: a) k = pick a (k - (r.hi - r.lo + 1)) := by rw [pick, if_neg h]
theorem sz_cons (r : Rn) (a : List Rn) : sz (r :: a) = (r.hi - r.lo + 1) + sz a := rfl
theorem rk_bd : ∀ {a : List Rn} {l : Int} (n : Int), form l a → 0 ≤ rk a n ∧ rk a n ≤ sz a
  | [], _, _, _ => ⟨Int.le_refl _, Int.le_refl _⟩
  | r :: a, l, n, h => by
    have ih := rk_bd n h.2.2.2
    have h2 := h.2.1
    have h0 := (sz_bd h.2.2.2).1
    rw [sz_cons]
    by_cases c1 : n < r.lo
    · rw [rk_before c1]; omega
    · by_cases c2 : n ≤ r.hi
      · rw [rk_in (by omega) c2]; omega
      · rw [rk_past h2 (by omega)]; omega
theorem pick_good : ∀ {a : List Rn} {l k : Int}, 1 ≤ l → form l a → 1 ≤ k → k ≤ sz a → mem a (pick a k) ∧ rk a (pick a k) = k ∧ rk a (pick a k - 1) = k - 1 ∧ l ≤ pick a k ∧ pick a k ≤ 1000000000
  | [], _, k, _, _, h1, h2 => by simp [sz] at h2; omega
  | r :: a, l, k, hl, h, h1, h2 => by
    have f1 := h.1
    have f2 := h.2.1
    have f3 := h.2.2.1
    rw [sz_cons] at h2
    by_cases c : k ≤ r.hi - r.lo + 1
    · rw [pick_in c, rk_in (by omega) (by omega)]
      refine ⟨(mem_cons r a _).2 (Or.inl ⟨by omega, by omega, by omega, by omega⟩), by omega, ?_, by omega, by omega⟩
      by_cases c1 : k = 1
      · rw [rk_before (by omega)]; omega
      · rw [rk_in (by omega) (by omega)]; omega
    · obtain ⟨i1, i2, i3, i4, i5⟩ := pick_good (k := k - (r.hi - r.lo + 1)) (by omega) h.2.2.2 (by omega) (by omega)
      rw [pick_past c, rk_past f2 (by omega), rk_past f2 (by omega), i2, i3]
      exact ⟨(mem_cons r a _).2 (Or.inr i1), by omega, by omega, by omega, i5⟩
theorem pick_none : ∀ {a : List Rn} {l k : Int}, form l a → 1 ≤ k → ¬ k ≤ sz a → pick a k = 0
  | [], _, _, _, _, _ => rfl
  | r :: a, l, k, h, h1, h2 => by
    have h0 := (sz_bd h.2.2.2).1
    rw [sz_cons] at h2
    rw [pick_past (by omega)]
    exact pick_none h.2.2.2 (by omega) (by omega)
theorem pick_rk : ∀ {a : List Rn} {l : Int} (n : Int), form l a → 0 < rk a n → pick a (rk a n) ≤ n
  | [], _, n, _, h => by simp [rk, cutTo, sz] at h
  | r :: a, l, n, h, h0 => by
    have ih := pick_rk n h.2.2.2
    have hb := (rk_bd n h.2.2.2).1
    have f2 := h.2.1
    by_cases c1 : n < r.lo
    · rw [rk_before c1] at h0; omega
    · by_cases c2 : n ≤ r.hi
      · rw [rk_in (by omega) c2, pick_in (by omega)]; omega
      · rw [rk_past f2 (by omega)]
        by_cases c3 : rk a n = 0
        · rw [c3, pick_in (by omega)]; omega
        · rw [pick_past (by omega), show r.hi - r.lo + 1 + rk a n - (r.hi - r.lo + 1) = rk a n by omega]
          exact ih (by omega)
theorem fst_past {r : Rn} {a : List Rn} {f : Int} (h : r.hi < f) : fst (r :: a) f = fst a f := by rw [fst, if_neg (by omega)]
theorem fst_in {r : Rn} {a : List Rn} {f : Int} (h : f ≤ r.hi) : fst (r :: a) f = max r.lo f := by rw [fst, if_pos h]
theorem next_good : ∀ {a : List Rn} {l : Int} (n : Int), 1 ≤ l → form l a → rk a n + 1 ≤ sz a → n < pick a (rk a n + 1) ∧ ∀ f, (rk a n = 0 ∨ pick a (rk a n) < f) → f ≤ pick a (rk a n + 1) → fst a f = pick a (rk a n + 1)
  | [], _, n, _, _, h => by simp [rk, cutTo, sz] at h
  | r :: a, l, n, hl, h, h0 => by
    have ih := next_good n (l := r.hi + 2) (by have := h.1; have := h.2.1; omega) h.2.2.2
    have hb := (rk_bd n h.2.2.2).1
    have f1 := h.1
    have f2 := h.2.1
    rw [sz_cons] at h0
    by_cases c1 : n < r.lo
    · rw [rk_before c1, pick_in (by omega)]
      refine ⟨by omega, fun f _ hf => ?_⟩
      rw [fst_in (by omega)]; omega
    · by_cases c2 : n < r.hi
      · rw [rk_in (by omega) (by omega), pick_in (by omega), pick_in (by omega)]
        refine ⟨by omega, fun f h1 hf => ?_⟩
        rw [fst_in (by omega)]; omega
      · by_cases c3 : n = r.hi
        · have e0 : rk a n = 0 := rk_low h.2.2.2 (by omega)
          rw [rk_in (by omega) (by omega)] at h0 ⊢
          rw [e0] at ih
          obtain ⟨i1, i2⟩ := ih (by omega)
          rw [pick_in (k := n - r.lo + 1) (by omega), pick_past (by omega), show n - r.lo + 1 + 1 - (r.hi - r.lo + 1) = 0 + 1 by omega]
          refine ⟨i1, fun f h1 hf => ?_⟩
          rw [fst_past (by omega)]
          exact i2 f (Or.inl rfl) hf
        · rw [rk_past f2 (by omega)] at h0 ⊢
          obtain ⟨i1, i2⟩ := ih (by omega)
          rw [pick_past (k := r.hi - r.lo + 1 + rk a n + 1) (by omega), show r.hi - r.lo + 1 + rk a n + 1 - (r.hi - r.lo + 1) = rk a n + 1 by omega]
          refine ⟨i1, fun f h1 hf => ?_⟩
          by_cases c4 : rk a n = 0
          · rw [c4, pick_in (by omega)] at h1
            rw [fst_past (by omega)]
            exact i2 f (Or.inl c4) hf
          · rw [pick_past (by omega), show r.hi - r.lo + 1 + rk a n - (r.hi - r.lo + 1) = rk a n by omega] at h1
            have := (pick_good (l := r.hi + 2) (k := rk a n) (by omega) h.2.2.2 (by omega) (by omega)).2.2.2.1
            rw [fst_past (by omega)]
            exact i2 f (Or.inr (by omega)) hf
theorem fst_bd : ∀ {a : List Rn} {l : Int} (f : Int), 1 ≤ l → form l a → 0 ≤ fst a f ∧ fst a f ≤ 1000000000
  | [], _, _, _, _ => by simp [fst]
  | r :: a, l, f, hl, h => by
    have := fst_bd (l := r.hi + 2) f (by have := h.1; have := h.2.1; omega) h.2.2.2
    have := h.1
    have := h.2.1
    have := h.2.2.1
    by_cases c : f ≤ r.hi
    · rw [fst_in c]; omega
    · rw [fst_past (by omega)]; assumption
end Go.Proofs.YtmbkmpeongodbaaGreat
namespace Go.Proofs.YtmbkmpeongodbaaGreat

theorem rk_step : ∀ {a : List Rn} {l : Int} (n : Int), 1 ≤ n → n ≤ 1000000000 → form l a → (mem a n → rk a n = rk a (n - 1) + 1) ∧ (¬ mem a n → rk a n = rk a (n - 1))
  | [], _, n, _, _, _ => ⟨fun h => absurd h (mem_nil n), fun _ => rfl⟩
  | r :: a, l, n, h1, h2, h => by
    have ih := rk_step n h1 h2 h.2.2.2
    have f2 := h.2.1
    have hs : form r.lo (r :: a) := ⟨Int.le_refl _, h.2⟩
    by_cases c1 : n < r.lo
    · rw [rk_before c1, rk_before (by omega)]
      exact ⟨fun e => by have := form_ge hs e; omega, fun _ => rfl⟩
    · by_cases c2 : n ≤ r.hi
      · have hm : mem (r :: a) n := (mem_cons r a n).2 (Or.inl ⟨h1, h2, by omega, c2⟩)
        refine ⟨fun _ => ?_, fun e => absurd hm e⟩
        rw [rk_in (by omega) c2]
        by_cases c3 : n = r.lo
        · rw [rk_before (by omega)]; omega
        · rw [rk_in (by omega) (by omega)]; omega
      · have hm : mem (r :: a) n ↔ mem a n := by
          rw [mem_cons]
          exact ⟨fun e => e.elim (fun e => by omega) id, Or.inr⟩
        rw [hm, rk_past f2 (by omega)]
        by_cases c3 : n = r.hi + 1
        · have e0 : rk a n = 0 := rk_low h.2.2.2 (by omega)
          rw [rk_in (by omega) (by omega), e0]
          exact ⟨fun e => by have := form_ge h.2.2.2 e; omega, fun _ => by omega⟩
        · rw [rk_past f2 (by omega)]
          exact ⟨fun e => by have := ih.1 e; omega, fun e => by have := ih.2 e; omega⟩
theorem rk_full : ∀ {a : List Rn} {l : Int}, form l a → rk a 1000000000 = sz a
  | [], _, _ => rfl
  | r :: a, l, h => by
    have ih := rk_full h.2.2.2
    have f2 := h.2.1
    have f3 := h.2.2.1
    rw [sz_cons]
    by_cases c : r.hi = 1000000000
    · have hz := sz_bd h.2.2.2
      have e0 : a = [] := by
        rcases hz.2.1 with e | e
        · exact e
        · omega
      rw [rk_in (by omega) (by omega), e0]
      simp [sz]
      omega
    · rw [rk_past f2 (by omega), ih]
/-- two pairs of sets in which each number lies equally often are of one size -/
theorem sz_pairs {P Q R S : List Rn} (hP : form 1 P) (hQ : form 1 Q) (hR : form 1 R) (hS : form 1 S)
    (h : ∀ n, (mem P n ∨ mem Q n ↔ mem R n ∨ mem S n) ∧ (mem P n ∧ mem Q n ↔ mem R n ∧ mem S n)) : sz P + sz Q = sz R + sz S := by
  have key : ∀ k : Nat, k ≤ 1000000000 → rk P k + rk Q k = rk R k + rk S k := by
    intro k
    induction k with
    | zero => intro _; rw [rk_low hP (by omega), rk_low hQ (by omega), rk_low hR (by omega), rk_low hS (by omega)]
    | succ k ih =>
      intro hk
      have ih := ih (by omega)
      obtain ⟨p1, p2⟩ := rk_step ((k + 1 : Nat) : Int) (by omega) (by omega) hP
      obtain ⟨q1, q2⟩ := rk_step ((k + 1 : Nat) : Int) (by omega) (by omega) hQ
      obtain ⟨r1, r2⟩ := rk_step ((k + 1 : Nat) : Int) (by omega) (by omega) hR
      obtain ⟨s1, s2⟩ := rk_step ((k + 1 : Nat) : Int) (by omega) (by omega) hS
      rw [show ((k + 1 : Nat) : Int) - 1 = (k : Int) by omega] at p1 p2 q1 q2 r1 r2 s1 s2
      obtain ⟨g1, g2⟩ := h ((k + 1 : Nat) : Int)
      by_cases cP : mem P ((k + 1 : Nat) : Int) <;> by_cases cQ : mem Q ((k + 1 : Nat) : Int) <;> by_cases cR : mem R ((k + 1 : Nat) : Int) <;> by_cases cS : mem S ((k + 1 : Nat) : Int) <;> simp only [cP, cQ, cR, cS, not_true_eq_false, not_false_eq_true, forall_const, false_implies, or_self, or_true, and_self, and_true, and_false, or_false, iff_true, iff_false] at p1 p2 q1 q2 r1 r2 s1 s2 g1 g2 <;> omega
  have := key 1000000000 (Nat.le_refl _)
  rw [show ((1000000000 : Nat) : Int) = 1000000000 from rfl, rk_full hP, rk_full hQ, rk_full hR, rk_full hS] at this
  exact this
theorem sz_parts {P Q R : List Rn} (hP : form 1 P) (hQ : form 1 Q) (hR : form 1 R)
    (h : ∀ n, (mem P n ∨ mem Q n ↔ mem R n) ∧ ¬ (mem P n ∧ mem Q n)) : sz P + sz Q = sz R := by
  have := sz_pairs hP hQ hR (S := []) trivial (fun n => ⟨by rw [(h n).1]; exact ⟨Or.inl, fun e => e.elim id (fun e => absurd e (mem_nil n))⟩, fun e => absurd e (h n).2, fun e => absurd e.2 (mem_nil n)⟩)
  simpa [sz] using this
theorem sz_top {a : List Rn} (h : form 1 a) : 0 ≤ sz a ∧ sz a ≤ 1000000000 := by
  have hz := sz_bd h
  refine ⟨hz.1, ?_⟩
  rcases hz.2.1 with e | e
  · rw [e]; simp [sz]
  · omega
end Go.Proofs.YtmbkmpeongodbaaGreat
namespace Go.Proofs.YtmbkmpeongodbaaGreat
open Go.RowKit
attribute [local go_sem ↓] ldR_eq stR_eq
attribute [local go_sem] zero_RC cells_RV RC_size fold_RC
def LeadOf (A : List Rn) (k : Int) (L : List Rn) : Prop := form 1 L ∧ 0 ≤ k ∧ k ≤ 1000000000 ∧ (∀ X, NormOf A X → k + sz L = sz X) ∧ (∀ r L', L = r :: L' → k + 2 ≤ r.lo) ∧ ∃ X, NormOf A X ∧ ((k = 0 ∧ X = L ∧ ∀ r X', X = r :: X' → r.lo ≠ 1) ∨ X = ⟨1, k⟩ :: L)
def GivesL (w w' : World) (e : Ending) (A : List Rn) : Prop := ∃ k a1 n1 c1 L, e = .returned (.tuple #[.int .i64 k, .slice a1 n1 c1]) ∧ RSrc w' a1 n1 c1 L ∧ LeadOf A k L ∧ Below w.heap.size w w' ∧ ∀ ad, a1 = some ad → w.heap.size ≤ ad.block
set_option maxRecDepth 100000 in
set_option maxHeartbeats 1000000 in
theorem lead_any (ao : Option Addr) (n cap : Nat) (A : List Rn) (w : World) (hS : RSrc w ao n cap A) :
    Calls Tryz.prog 103 #[.slice ao n cap] w fun e w' => GivesL w w' e A := by
  have HS := hide hS
  clear hS
  go_enter Tryz.func103, Tryz.ntmps103
  go_wp2_with fail
  refine (norm_new ao n cap A _ HS.out).mono ?_
  rintro e w1 ⟨a1, n1, c1, X, rfl, S1, b1, f1', p1⟩
  have HFR := hide f1'
  have HS1 := hide S1
  have HP1 := hide p1
  have HB1 := hide b1
  have hn := S1.big
  have hc := S1.cap
  have hrm := S1.room
  unfold maxLen at hrm
  have HL : Hid (X.length = n1) := S1.len
  clear S1 b1 p1 f1'
  cases X with
  | nil =>
    obtain rfl : n1 = 0 := HL.out.symm
    have HF : Hid (LeadOf A 0 []) := ⟨trivial, by omega, by omega, fun Y hY => by rw [hY.unique HP1.out]; simp, (fun r L' e => by cases e), ⟨[], HP1.out, Or.inl ⟨rfl, rfl, (fun r X' e => by cases e)⟩⟩⟩
    go_wp2_with fail
    go_ret2
    exact (⟨_, _, _, _, _, rfl, HS1.out, HF.out, HB1.out, HFR.out⟩ : GivesL _ _ _ _)
  | cons r X =>
    have hn1 : 0 < n1 := by rw [← HL.out]; simp
    obtain ⟨ad, rfl, _⟩ := HS1.out.at 0 (by omega)
    obtain ⟨b, o, rfl⟩ := HS1.out.spot (by omega)
    obtain ⟨q0, q1⟩ := HS1.out.nums 0 (by omega)
    simp [List.getD] at q0 q1
    have f1 := HP1.out.1.1
    have f2 := HP1.out.1.2.1
    have f3 := HP1.out.1.2.2.1
    have d0 : ((n1 : Int) == 0) = false := by simp; omega
    have HT := hide HS1.out.tail'
    by_cases h1 : r.lo = 1
    · have d1 : (r.lo != 1) = false := by simpa using h1
      have HF : Hid (LeadOf A r.hi X) := ⟨form_mono (by omega) HP1.out.1.2.2.2, by omega, by omega, fun Y hY => by rw [hY.unique HP1.out, sz_cons]; omega, fun s L' e => by
        have := HP1.out.1.2.2.2
        rw [e] at this
        exact this.1, ⟨_, HP1.out, Or.inr (by obtain ⟨r1, r2⟩ := r; simp only at h1; subst h1; rfl)⟩⟩
      clear h1
      by_cases hcc : c1 = 1
      · subst hcc
        obtain rfl : n1 = 1 := by omega
        have HT1 : RSrc w1 (some ⟨b, o, none⟩) 0 0 X := HT.out
        replace HT := hide HT1
        clear HT1
        have k1 := cell_regrown q1
        go_wp2_with fail
        refine wp_region_quiet_below (by kernel_rfl) (by kernel_rfl) ?_
        repeat (with_reducible (refine wpQuiet_step ?_); intro K hK; go_simp; (try rw [if_neg (by unfold undef; simp)]); first | (with_reducible (refine hK _ ?_); clear hK K) | (apply Exists.intro; refine ⟨fun _ => ?_, hK _ ?_⟩; (fail); clear hK K))
        with_reducible (refine wpQuiet_nil ?_)
        intro w5 hw'
        obtain ⟨⟨dq, osq⟩, hw''⟩ := hw'
        have b5 : Below w1.heap.size w1 w5 := by rw [hw'']; exact below_regrown w1 dq osq
        clear hw'' dq osq
        have HT5 := hide (HT.out.below b5)
        have HB5 := hide (HB1.out.trans (b5.mono HB1.out.size))
        have HN : Hid (GivesL w w5 (.returned (.tuple #[.int .i64 r.hi, .slice (some ⟨b, o, none⟩) 0 0])) A) := ⟨_, _, _, _, X, rfl, HT5.out, HF.out, HB5.out, (fun ad h => by obtain rfl := Option.some.inj h; exact HFR.out ⟨b, o, none⟩ rfl)⟩
        clear b5 k1
        go_wp2_with fail
        go_ret2
        exact HN.out
      · have HT1 := HT.out
        rw [if_neg hcc] at HT1
        replace HT := hide HT1
        clear HT1
        have k1 := cell_regrown q1
        have hni : (1 : Int) ≤ (n1 : Int) := by omega
        go_wp2_with fail
        refine wp_region_quiet_below (by kernel_rfl) (by kernel_rfl) ?_
        repeat (with_reducible (refine wpQuiet_step ?_); intro K hK; go_simp; (try rw [if_neg (by unfold undef; simp)]); first | (with_reducible (refine hK _ ?_); clear hK K) | (apply Exists.intro; refine ⟨fun _ => ?_, hK _ ?_⟩; (fail); clear hK K))
        with_reducible (refine wpQuiet_nil ?_)
        intro w5 hw'
        obtain ⟨⟨dq, osq⟩, hw''⟩ := hw'
        have b5 : Below w1.heap.size w1 w5 := by rw [hw'']; exact below_regrown w1 dq osq
        clear hw'' dq osq
        have HT5 := hide (HT.out.below b5)
        have HB5 := hide (HB1.out.trans (b5.mono HB1.out.size))
        have HN : Hid (GivesL w w5 (.returned (.tuple #[.int .i64 r.hi, .slice (some ⟨b, o + 2, none⟩) (n1 - 1) (c1 - 1)])) A) := ⟨_, _, _, _, X, rfl, HT5.out, HF.out, HB5.out, (fun ad h => by obtain rfl := Option.some.inj h; exact HFR.out ⟨b, o, none⟩ rfl)⟩
        clear b5 k1
        go_wp2_with fail
        go_ret2
        exact HN.out
    · have d1 : (r.lo != 1) = true := by simpa using h1
      have HF : Hid (LeadOf A 0 (r :: X)) := ⟨HP1.out.1, by omega, by omega, fun Y hY => by rw [hY.unique HP1.out]; simp, fun s L' e => by
        injection e with e1 e2
        subst e1
        omega, ⟨_, HP1.out, Or.inl ⟨rfl, rfl, fun s X' e => by injection e with e1 e2; subst e1; exact h1⟩⟩⟩
      clear h1
      go_wp2_with fail
      go_ret2
      exact (⟨_, _, _, _, _, rfl, HS1.out, HF.out, HB1.out, HFR.out⟩ : GivesL _ _ _ _)
end Go.Proofs.YtmbkmpeongodbaaGreat
namespace Go.Proofs.YtmbkmpeongodbaaGreat
open Go.RowKit

def leadOf : List Rn → Int
  | [] => 0
  | r :: _ => if r.lo = 1 then r.hi else 0
def restOf : List Rn → List Rn
  | [] => []
  | r :: t => if r.lo = 1 then t else r :: t
def tag (r : Nat) (L : List Rn) : List Sn := L.map (fun x => ⟨(r : Int), x.lo, x.hi⟩)
def cloudN (N : Nat → List Rn) : Nat → List Sn
  | 0 => []
  | k + 1 => cloudN N k ++ tag k (restOf (N k))
/-- the past whose sets have these forms -/
def canonP (N : Nat → List Rn) : Pst := ⟨V.short (fun r => leadOf (N r)), cloudN N 16⟩
theorem lead_rest {A X : List Rn} {k : Int} {L : List Rn} (h : LeadOf A k L) (hX : NormOf A X) : k = leadOf X ∧ L = restOf X := by
  obtain ⟨_, _, _, _, _, Y, hY, h | h⟩ := h
  · obtain rfl := hX.unique hY
    obtain ⟨rfl, rfl, hr⟩ := h
    cases X with
    | nil => exact ⟨rfl, rfl⟩
    | cons r t =>
      have := hr r t rfl
      simp [leadOf, restOf, this]
  · obtain rfl := hX.unique hY
    subst h
    simp [leadOf, restOf]
theorem LeadOf.norm {A : List Rn} {k : Int} {L : List Rn} (h : LeadOf A k L) : ∃ X, NormOf A X ∧ k = leadOf X ∧ L = restOf X := by
  obtain ⟨X, hX, _⟩ := h.2.2.2.2.2
  exact ⟨X, hX, lead_rest h hX⟩
theorem leadOf_bd {X : List Rn} (h : form 1 X) : 0 ≤ leadOf X ∧ leadOf X ≤ 1000000000 := by
  cases X with
  | nil => simp [leadOf]
  | cons r t =>
    have h1 := h.1
    have h2 := h.2.1
    have h3 := h.2.2.1
    simp only [leadOf]
    split <;> omega
theorem restOf_len (X : List Rn) : (restOf X).length ≤ X.length := by
  cases X with
  | nil => simp [restOf]
  | cons r t => simp only [restOf]; split <;> simp
theorem tag_length (r : Nat) (L : List Rn) : (tag r L).length = L.length := by simp [tag]
theorem cloudN_congr {N N' : Nat → List Rn} : ∀ k, (∀ r, r < k → N r = N' r) → cloudN N k = cloudN N' k
  | 0, _ => rfl
  | k + 1, h => by rw [cloudN, cloudN, cloudN_congr k (fun r hr => h r (by omega)), h k (by omega)]
theorem cloudN_len {N : Nat → List Rn} : ∀ k, (∀ r, r < k → form 1 (N r)) → (cloudN N k).length ≤ k * 500000001
  | 0, _ => by simp [cloudN]
  | k + 1, h => by
    have h1 := cloudN_len k (fun r hr => h r (by omega))
    have h2 := restOf_len (N k)
    have h3 := form_small (Int.le_refl _) (h k (by omega))
    rw [cloudN, List.length_append, tag_length]
    omega
theorem topN_congr {f g : Nat → Int} : ∀ k, (∀ r, r < k → f r = g r) → V.topN f k = V.topN g k
  | 0, _ => rfl
  | k + 1, h => by rw [V.topN, V.topN, topN_congr k (fun r hr => h r (by omega)), h k (by omega)]
theorem short_congr {f g : Nat → Int} (h : ∀ r, r < 16 → f r = g r) : V.short f = V.short g := by
  have ht : V.top f = V.top g := topN_congr 16 h
  have h16 := V.top_le g
  unfold V.short
  rw [ht]
  apply List.map_congr_left
  intro r hr
  exact h r (by have := List.mem_range.1 hr; omega)
theorem canonP_congr {N N' : Nat → List Rn} (h : ∀ r, r < 16 → N r = N' r) : canonP N = canonP N' := by
  unfold canonP
  rw [short_congr (fun r hr => by rw [h r hr]), cloudN_congr 16 h]
/-- the past is the form of these sets -/
def CanonOf (G : Nat → List Rn) (P : Pst) : Prop := ∃ N, (∀ r, r < 16 → NormOf (G r) (N r)) ∧ P = canonP N
theorem CanonOf.unique {G G' : Nat → List Rn} {P P' : Pst} (h : CanonOf G P) (h' : CanonOf G' P') (e : ∀ r, r < 16 → ∀ n, mem (G r) n ↔ mem (G' r) n) : P = P' := by
  obtain ⟨N, hN, rfl⟩ := h
  obtain ⟨N', hN', rfl⟩ := h'
  exact canonP_congr fun r hr => form_unique (Int.le_refl _) (hN r hr).1 (hN' r hr).1 (fun n => ((hN r hr).2 n).trans ((e r hr n).trans ((hN' r hr).2 n).symm))
/-- what the form's vector and cloud say -/
theorem at_short {f : Nat → Int} (hf : ∀ r, r < 16 → 0 ≤ f r ∧ f r ≤ 1000000000) (r : Nat) (hr : r < 16) : V.at' (V.short f) r = f r := by
  unfold V.at'
  rw [if_pos hr]
  have key : ∀ k, V.topN f k ≤ r → r < k → f r = 0 := by
    intro k
    induction k with
    | zero => intro _ h; omega
    | succ k ih =>
      intro h1 h2
      rw [V.topN] at h1
      by_cases h0 : f k = 0
      · rw [if_pos h0] at h1
        by_cases e : r = k
        · rw [e]; exact h0
        · exact ih h1 (by omega)
      · rw [if_neg h0] at h1; omega
  have hb := hf r hr
  by_cases h : r < V.top f
  · have : (V.short f).getD r 0 = f r := by simp [V.short, List.getD, h]
    rw [this]
    unfold V.clamp
    rw [if_neg (by omega), if_neg (by omega)]
  · have h0 : f r = 0 := key 16 (by unfold V.top at h; omega) hr
    have : (V.short f).getD r 0 = 0 := by
      rw [List.getD, List.getElem?_eq_none (by rw [V.short_length]; omega)]; rfl
    rw [this, h0]
    rfl
theorem cloudPart_append (L M : List Sn) (r : Nat) : cloudPart (L ++ M) r = cloudPart L r ++ cloudPart M r := by simp [cloudPart]
theorem cloudPart_tag (q r : Nat) (L : List Rn) : cloudPart (tag q L) r = if q = r then L else [] := by
  induction L with
  | nil => simp [cloudPart, tag]
  | cons x L ih =>
    have e : tag q (x :: L) = [(⟨(q : Int), x.lo, x.hi⟩ : Sn)] ++ tag q L := rfl
    rw [e, cloudPart_append, ih]
    by_cases h : q = r
    · subst h; simp [cloudPart]
    · have : ¬ (q : Int) = (r : Int) := by omega
      simp [cloudPart, h, this]
theorem cloudPart_N (N : Nat → List Rn) (r : Nat) : ∀ k, cloudPart (cloudN N k) r = if r < k then restOf (N r) else []
  | 0 => by simp [cloudN, cloudPart]
  | k + 1 => by
    rw [cloudN, cloudPart_append, cloudPart_N N r k, cloudPart_tag]
    by_cases h : k = r
    · subst h; simp
    · by_cases h' : r < k
      · simp [h, h', show r < k + 1 by omega]
      · simp [h, h', show ¬ r < k + 1 by omega]
theorem lead_rest_mem {X : List Rn} (h : form 1 X) (n : Int) : mem (vecPart (leadOf X) ++ restOf X) n ↔ mem X n := by
  cases X with
  | nil => simp [leadOf, restOf, vecPart]
  | cons r t =>
    have h1 := h.1
    have h2 := h.2.1
    have h3 := h.2.2.1
    by_cases e : r.lo = 1
    · have hp : 0 < r.hi := by omega
      have hr : (⟨1, r.hi⟩ : Rn) = r := by cases r; simp_all
      simp [leadOf, restOf, e, vecPart, hp, hr]
    · simp [leadOf, restOf, e, vecPart]
/-- the form's own sets are those it was made of -/
theorem canon_mem {G : Nat → List Rn} {P : Pst} (h : CanonOf G P) (r : Nat) (hr : r < 16) (n : Int) : mem (runsAt P r) n ↔ mem (G r) n := by
  obtain ⟨N, hN, rfl⟩ := h
  have hf : ∀ r, r < 16 → 0 ≤ leadOf (N r) ∧ leadOf (N r) ≤ 1000000000 := fun r hr => leadOf_bd (hN r hr).1
  unfold runsAt canonP
  dsimp only
  rw [at_short hf r hr, cloudPart_N, if_pos hr, lead_rest_mem (hN r hr).1]
  exact (hN r hr).2 n
theorem canon_len {G : Nat → List Rn} {P : Pst} (h : CanonOf G P) : P.cloud.length ≤ 8000000016 ∧ P.vec.length ≤ 16 := by
  obtain ⟨N, hN, rfl⟩ := h
  have := cloudN_len (N := N) 16 (fun r hr => (hN r hr).1)
  refine ⟨by show (cloudN N 16).length ≤ _; omega, by show (V.short _).length ≤ _; rw [V.short_length]; exact V.top_le _⟩
/-- its lists lie in blocks from n on -/
def PNew (n : Nat) (p : Pv) : Prop := (∀ ad, p.vo = some ad → n ≤ ad.block) ∧ ∀ ad, p.co = some ad → n ≤ ad.block
theorem PNew.mono {n m : Nat} {p : Pv} (h : PNew n p) (hm : m ≤ n) : PNew m p := ⟨fun ad e => Nat.le_trans hm (h.1 ad e), fun ad e => Nat.le_trans hm (h.2 ad e)⟩
/-- a past is handed back, in new memory; old memory stands -/
def GivesP (w w' : World) (e : Ending) (Q : Pst → Prop) : Prop := ∃ p : Pv, e = .returned (PV p) ∧ PSrc w' p ∧ PNew w.heap.size p ∧ Below w.heap.size w w' ∧ Q p.P
theorem psrc_off {w w' : World} {p : Pv} (h : PSrc w p) (hv : ∀ ad, p.vo = some ad → w'.heap[ad.block]? = w.heap[ad.block]?) (hc : ∀ ad, p.co = some ad → w'.heap[ad.block]? = w.heap[ad.block]?) : PSrc w' p := ⟨h.vec.off hv, h.cloud.off hc, h.big⟩
/-- the result's variable is filled -/
theorem past_end {w W : World} {g : Nat} {p : Pv} (hP : PBox W g pv0) (hS : PSrc W p) (hn : PNew (g + 1) p) (hb : Below w.heap.size w W) (hg : w.heap.size ≤ g) : (stP (.pointer (some ⟨g, 0, none⟩)) (PV p)).run Tryz.prog W = .ok () (W.setRow g (PC p)) ∧ PBox (W.setRow g (PC p)) g p ∧ PSrc (W.setRow g (PC p)) p ∧ PNew w.heap.size p ∧ Below w.heap.size w (W.setRow g (PC p)) := by
  refine ⟨run_stP hP, setRow_heap _ _ _ _ _ _ hP, psrc_off hS (fun ad h => setRow_other _ _ _ _ (fun e => ?_)) (fun ad h => setRow_other _ _ _ _ (fun e => ?_)), hn.mono (by omega), below_setRow hb hg⟩
  · have := hn.1 ad h; omega
  · have := hn.2 ad h; omega
theorem CanonOf.congr {G G' : Nat → List Rn} {P : Pst} (h : CanonOf G P) (e : ∀ r, r < 16 → G r = G' r) : CanonOf G' P := by
  obtain ⟨N, hN, rfl⟩ := h
  exact ⟨N, fun r hr => by rw [← e r hr]; exact hN r hr, rfl⟩
end Go.Proofs.YtmbkmpeongodbaaGreat
namespace Go.Proofs.YtmbkmpeongodbaaGreat
open Go.RowKit

theorem tn_lo : ∀ (R : List Rn) (t : Nat), t < R.length → (tn R).getD (2 * t) 0 = (R.getD t rn0).lo ∧ (tn R).getD (2 * t + 1) 0 = (R.getD t rn0).hi + 1
  | [], t, h => by simp at h
  | r :: R, 0, _ => ⟨rfl, rfl⟩
  | r :: R, t + 1, h => by
    have ih := tn_lo R t (by simpa using h)
    have e1 : 2 * (t + 1) = 2 * t + 1 + 1 := by omega
    have e2 : 2 * (t + 1) + 1 = 2 * t + 1 + 1 + 1 := by omega
    rw [e1]
    simp only [tn, List.getD_cons_succ]
    exact ih
theorem rn_take (R : List Rn) (t : Nat) (h : t < R.length) : R.take (t + 1) = R.take t ++ [R.getD t rn0] := by
  rw [List.take_succ_eq_append_getElem h]
  simp [List.getD, h]
theorem form_gt : ∀ {R : List Rn} {l : Int}, form l R → ∀ t, t < R.length → l ≤ (R.getD t rn0).lo ∧ (R.getD t rn0).lo ≤ (R.getD t rn0).hi ∧ (R.getD t rn0).hi ≤ 1000000000
  | R, l, h, t, ht => by
    have hm : R.getD t rn0 ∈ R := by
      have : R.getD t rn0 = R[t] := by simp [List.getD, ht]
      rw [this]; exact List.getElem_mem ht
    exact form_bd h _ hm
theorem form_first {R : List Rn} (h : form 1 R) (t : Nat) (ht : t < R.length) (e : (R.getD t rn0).lo = 1) : t = 0 := by
  cases R with
  | nil => simp at ht
  | cons r R =>
    cases t with
    | zero => rfl
    | succ t =>
      exfalso
      have h1 := h.1
      have h2 := h.2.1
      have := (form_gt h.2.2.2 t (by simpa using ht)).1
      rw [List.getD_cons_succ] at e
      omega
/-- a run is taken: into the vector, or into the cloud -/
theorem lead_in {R : List Rn} (h : form 1 R) (t : Nat) (ht : t < R.length) (e : (R.getD t rn0).lo = 1) : leadOf (R.take t) = 0 ∧ leadOf (R.take (t + 1)) = (R.getD t rn0).hi ∧ restOf (R.take (t + 1)) = restOf (R.take t) ∧ 1 ≤ (R.getD t rn0).hi := by
  obtain rfl := form_first h t ht e
  rw [rn_take R 0 ht]
  have := (form_gt h 0 ht).2.1
  refine ⟨rfl, ?_, ?_, by omega⟩
  · simp only [List.take_zero, List.nil_append, leadOf]; rw [if_pos e]
  · simp only [List.take_zero, List.nil_append, restOf]; rw [if_pos e]
theorem rest_in {R : List Rn} (t : Nat) (ht : t < R.length) (e : ¬ (R.getD t rn0).lo = 1) : leadOf (R.take (t + 1)) = leadOf (R.take t) ∧ restOf (R.take (t + 1)) = restOf (R.take t) ++ [R.getD t rn0] := by
  rw [rn_take R t ht]
  generalize R.getD t rn0 = x at e
  cases hr : R.take t with
  | nil => simp [leadOf, restOf, e]
  | cons r q =>
    simp only [List.cons_append, leadOf, restOf, true_and]
    split <;> simp
theorem tag_snoc (r : Nat) (L : List Rn) (x : Rn) : tag r (L ++ [x]) = tag r L ++ [⟨(r : Int), x.lo, x.hi⟩] := by simp [tag]
/-- the vector: rows below y whole, row y as far as t runs -/
def vfn (N : Nat → List Rn) (y t q : Nat) : Int := if q < y then leadOf (N q) else if q = y then leadOf ((N y).take t) else 0
def vtop (N : Nat → List Rn) (y t : Nat) : Nat := if leadOf ((N y).take t) = 0 then V.topN (fun q => leadOf (N q)) y else y + 1
def vcl (N : Nat → List Rn) (y t : Nat) : List Sn := cloudN N y ++ tag y (restOf ((N y).take t))
theorem vtop_zero (N : Nat → List Rn) (y : Nat) : vtop N y 0 = V.topN (fun q => leadOf (N q)) y := by simp [vtop, leadOf]
theorem vtop_end (N : Nat → List Rn) (y : Nat) : vtop N y (N y).length = V.topN (fun q => leadOf (N q)) (y + 1) := by
  rw [vtop, List.take_length, V.topN]
theorem vcl_zero (N : Nat → List Rn) (y : Nat) : vcl N y 0 = cloudN N y := by simp [vcl, restOf, tag]
theorem vcl_end (N : Nat → List Rn) (y : Nat) : vcl N y (N y).length = cloudN N (y + 1) := by rw [vcl, List.take_length, cloudN]
theorem vfn_end (N : Nat → List Rn) (y q : Nat) : vfn N y (N y).length q = vfn N (y + 1) 0 q := by
  unfold vfn
  rw [List.take_length]
  by_cases h1 : q < y
  · rw [if_pos h1, if_pos (by omega)]
  · rw [if_neg h1]
    by_cases h2 : q = y
    · subst h2; rw [if_pos rfl, if_pos (by omega)]
    · rw [if_neg h2, if_neg (by omega)]
      by_cases h3 : q = y + 1
      · rw [if_pos h3]; simp [leadOf]
      · rw [if_neg h3]
theorem vfn_lead {N : Nat → List Rn} {y t : Nat} (h : form 1 (N y)) (ht : t < (N y).length) (e : ((N y).getD t rn0).lo = 1) (q : Nat) : vfn N y (t + 1) q = if q = y then ((N y).getD t rn0).hi else vfn N y t q := by
  unfold vfn
  rw [(lead_in h t ht e).2.1]
  by_cases h1 : q < y
  · rw [if_pos h1, if_neg (by omega), if_pos h1]
  · rw [if_neg h1]
    by_cases h2 : q = y
    · rw [if_pos h2, if_pos h2]
    · rw [if_neg h2, if_neg h2, if_neg h1, if_neg h2]
theorem vfn_rest {N : Nat → List Rn} {y t : Nat} (ht : t < (N y).length) (e : ¬ ((N y).getD t rn0).lo = 1) (q : Nat) : vfn N y (t + 1) q = vfn N y t q := by
  unfold vfn
  rw [(rest_in t ht e).1]
/-- sixteen numbers in a row -/
def V16 (f : Nat → Int) : Array Value := ((List.range 16).map (fun q => Value.int .i64 (f q))).toArray
theorem V16_size (f : Nat → Int) : (V16 f).size = 16 := by simp [V16]
theorem V16_congr {f g : Nat → Int} (h : ∀ q, f q = g q) : V16 f = V16 g := by unfold V16; rw [funext h]
theorem V16_set (f : Nat → Int) (y : Nat) (z : Int) : (V16 f).setIfInBounds y (.int .i64 z) = V16 (fun q => if q = y then z else f q) := by
  apply Array.ext
  · simp [V16]
  · intro i h1 h2
    simp [V16] at h2
    by_cases h : y = i
    · subst h; simp [V16]
    · have : ¬ i = y := fun e => h e.symm
      simp [V16, h, this]
theorem V16_zero : V16 (fun _ => 0) = #[.int .i64 0, .int .i64 0, .int .i64 0, .int .i64 0, .int .i64 0, .int .i64 0, .int .i64 0, .int .i64 0, .int .i64 0, .int .i64 0, .int .i64 0, .int .i64 0, .int .i64 0, .int .i64 0, .int .i64 0, .int .i64 0] := rfl
/-- Form's variables: the set, the result, the past that is made, the vector -/
structure FoI (w W : World) (T : Nat → Si) (f : Nat → Int) (co : Option Addr) (cn cc : Nat) (cl : List Sn) : Prop where
  a : ISets W w.heap.size 105 T
  z : PBox W (w.heap.size + 1) pv0
  p : PBox W (w.heap.size + 1 + 1) ⟨none, 0, 0, co, cn, cc, ⟨[], cl⟩⟩
  v : W.heap[w.heap.size + 1 + 1 + 1]? = some (.cells (V16 f) 3 (0, 0))
  o : OwnS w.heap.size (w.heap.size + 1 + 1 + 1 + 1) w W co cc cl
  l : cl.length = cn
theorem OwnS.set {B0 B : Nat} {w w' : World} {ao : Option Addr} {cap : Nat} {acc : List Sn} (O : OwnS B0 B w w' ao cap acc) {q t : Nat} {v : Value} (h1 : B0 ≤ q) (h2 : q < B) : OwnS B0 B w (w'.setCell ⟨q, t, none⟩ v) ao cap acc := by
  refine ⟨⟨O.own.1, ?_⟩, V.below_setCell O.below h1, by simpa [World.setCell] using O.hB, O.hB0⟩
  rcases O.own.2 with h | ⟨g, cap2, cur, hv, hbg, hgg, r⟩
  · exact Or.inl h
  · exact Or.inr ⟨g, cap2, cur, hv, hbg, (setCell_other (by omega)).trans hgg, r⟩
theorem FoI.congr {w W : World} {T : Nat → Si} {f f' : Nat → Int} {co : Option Addr} {cn cc : Nat} {cl cl' : List Sn} (I : FoI w W T f co cn cc cl) (h : ∀ q, f q = f' q) (hc : cl = cl') : FoI w W T f' co cn cc cl' := by
  obtain rfl : f = f' := funext h
  subst hc; exact I
theorem FoI.on {w W W' : World} {T : Nat → Si} {f : Nat → Int} {co : Option Addr} {cn cc : Nat} {cl : List Sn} (I : FoI w W T f co cn cc cl) (hb : Below W.heap.size W W') : FoI w W' T f co cn cc cl :=
  ⟨I.a.below hb, I.z.below hb, I.p.below hb, (hb.block _ (Array.getElem?_eq_some_iff.1 I.v).1).trans I.v, I.o.later hb, I.l⟩
/-- a number is put into the vector -/
theorem FoI.vset {w W : World} {T : Nat → Si} {f : Nat → Int} {co : Option Addr} {cn cc : Nat} {cl : List Sn} (I : FoI w W T f co cn cc cl) (y : Nat) (z : Int) : FoI w (W.setCell ⟨w.heap.size + 1 + 1 + 1, y, none⟩ (.int .i64 z)) T (fun q => if q = y then z else f q) co cn cc cl := by
  have hs : ∀ {q : Nat}, q ≠ w.heap.size + 1 + 1 + 1 → (W.setCell ⟨w.heap.size + 1 + 1 + 1, y, none⟩ (.int .i64 z)).heap[q]? = W.heap[q]? := fun h => setCell_other h
  refine ⟨(hs (by omega)).trans I.a, (hs (by omega)).trans I.z, (hs (by omega)).trans I.p, ?_, I.o.set (by omega) (by omega), I.l⟩
  have h := I.v
  simp [World.setCell, h, Array.getElem?_modify, V16_set]
/-- the cloud has grown, and its slice is stored -/
theorem FoI.cset {w W W2 : World} {T : Nat → Si} {f : Nat → Int} {co : Option Addr} {cn cc : Nat} {cl : List Sn} (I : FoI w W T f co cn cc cl) {g c2 : Nat} {e : Sn} (O : OwnS w.heap.size (w.heap.size + 1 + 1 + 1 + 1) w W2 (some ⟨g, 0, none⟩) c2 (cl ++ [e])) (hk : ∀ k, k < w.heap.size + 1 + 1 + 1 + 1 → W2.heap[k]? = W.heap[k]?) {v : Value} (hv : v = .slice (some ⟨g, 0, none⟩) (cn + 1) c2) :
    FoI w (W2.setCell ⟨w.heap.size + 1 + 1, 1, none⟩ v) T f (some ⟨g, 0, none⟩) (cn + 1) c2 (cl ++ [e]) := by
  subst hv
  have hs : ∀ {q : Nat}, q ≠ w.heap.size + 1 + 1 → (W2.setCell ⟨w.heap.size + 1 + 1, 1, none⟩ (.slice (some ⟨g, 0, none⟩) (cn + 1) c2)).heap[q]? = W2.heap[q]? := fun h => setCell_other h
  refine ⟨(hs (by omega)).trans ((hk _ (by omega)).trans I.a), (hs (by omega)).trans ((hk _ (by omega)).trans I.z), ?_, (hs (by omega)).trans ((hk _ (by omega)).trans I.v), O.set (by omega) (by omega), by rw [List.length_append, I.l]; rfl⟩
  have h := (hk _ (by omega)).trans I.p
  unfold PBox
  simp [World.setCell, h, Array.getElem?_modify, PC]
end Go.Proofs.YtmbkmpeongodbaaGreat
