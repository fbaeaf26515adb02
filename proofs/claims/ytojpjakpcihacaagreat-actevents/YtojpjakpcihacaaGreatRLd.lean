/- Lead, as the form's first run. -/
import Derived.Test.YtojpjakpcihacaaGreatRPk
import Derived.Test.YtojpjakpcihacaaGreatRSz

namespace Go.Proofs.YtojpjakpcihacaaGreat

theorem rk_step : ∀ {a : List Rn} {l : Int} (n : Int), 1 ≤ n → n ≤ 1000000000 → form l a → (mem a n → rk a n = rk a (n - 1) + 1) ∧ (¬ mem a n → rk a n = rk a (n - 1))
  | [], _, n, _, _, _ => ⟨fun h => absurd h (mem_nil n), fun _ => rfl⟩
  | r :: a, l, n, h1, h2, h => by
    have ih := rk_step n h1 h2 h.2.2.2
    have f2 := h.2.1
    have hs : form r.lo (r :: a) := ⟨Int.le_refl _, h.2⟩
    by_cases c1 : n < r.lo
    · rw [rk_before c1, rk_before (by omega)]
      exact ⟨fun e => by have := form_ge hs e; omega, fun _ => rfl⟩
    · by_cases c2 : n ≤ r.hi
      · have hm : mem (r :: a) n := (mem_cons r a n).2 (Or.inl ⟨h1, h2, by omega, c2⟩)
        refine ⟨fun _ => ?_, fun e => absurd hm e⟩
        rw [rk_in (by omega) c2]
        by_cases c3 : n = r.lo
        · rw [rk_before (by omega)]; omega
        · rw [rk_in (by omega) (by omega)]; omega
      · have hm : mem (r :: a) n ↔ mem a n := by
          rw [mem_cons]
          exact ⟨fun e => e.elim (fun e => by omega) id, Or.inr⟩
        rw [hm, rk_past f2 (by omega)]
        by_cases c3 : n = r.hi + 1
        · have e0 : rk a n = 0 := rk_low h.2.2.2 (by omega)
          rw [rk_in (by omega) (by omega), e0]
          exact ⟨fun e => by have := form_ge h.2.2.2 e; omega, fun _ => by omega⟩
        · rw [rk_past f2 (by omega)]
          exact ⟨fun e => by have := ih.1 e; omega, fun e => by have := ih.2 e; omega⟩
theorem rk_full : ∀ {a : List Rn} {l : Int}, form l a → rk a 1000000000 = sz a
  | [], _, _ => rfl
  | r :: a, l, h => by
    have ih := rk_full h.2.2.2
    have f2 := h.2.1
    have f3 := h.2.2.1
    rw [sz_cons]
    by_cases c : r.hi = 1000000000
    · have hz := sz_bd h.2.2.2
      have e0 : a = [] := by
        rcases hz.2.1 with e | e
        · exact e
        · omega
      rw [rk_in (by omega) (by omega), e0]
      simp [sz]
      omega
    · rw [rk_past f2 (by omega), ih]
/-- two pairs of sets in which each number lies equally often are of one size -/
theorem sz_pairs {P Q R S : List Rn} (hP : form 1 P) (hQ : form 1 Q) (hR : form 1 R) (hS : form 1 S)
    (h : ∀ n, (mem P n ∨ mem Q n ↔ mem R n ∨ mem S n) ∧ (mem P n ∧ mem Q n ↔ mem R n ∧ mem S n)) : sz P + sz Q = sz R + sz S := by
  have key : ∀ k : Nat, k ≤ 1000000000 → rk P k + rk Q k = rk R k + rk S k := by
    intro k
    induction k with
    | zero => intro _; rw [rk_low hP (by omega), rk_low hQ (by omega), rk_low hR (by omega), rk_low hS (by omega)]
    | succ k ih =>
      intro hk
      have ih := ih (by omega)
      obtain ⟨p1, p2⟩ := rk_step ((k + 1 : Nat) : Int) (by omega) (by omega) hP
      obtain ⟨q1, q2⟩ := rk_step ((k + 1 : Nat) : Int) (by omega) (by omega) hQ
      obtain ⟨r1, r2⟩ := rk_step ((k + 1 : Nat) : Int) (by omega) (by omega) hR
      obtain ⟨s1, s2⟩ := rk_step ((k + 1 : Nat) : Int) (by omega) (by omega) hS
      rw [show ((k + 1 : Nat) : Int) - 1 = (k : Int) by omega] at p1 p2 q1 q2 r1 r2 s1 s2
      obtain ⟨g1, g2⟩ := h ((k + 1 : Nat) : Int)
      by_cases cP : mem P ((k + 1 : Nat) : Int) <;> by_cases cQ : mem Q ((k + 1 : Nat) : Int) <;> by_cases cR : mem R ((k + 1 : Nat) : Int) <;> by_cases cS : mem S ((k + 1 : Nat) : Int) <;> simp only [cP, cQ, cR, cS, not_true_eq_false, not_false_eq_true, forall_const, false_implies, or_self, or_true, and_self, and_true, and_false, or_false, iff_true, iff_false] at p1 p2 q1 q2 r1 r2 s1 s2 g1 g2 <;> omega
  have := key 1000000000 (Nat.le_refl _)
  rw [show ((1000000000 : Nat) : Int) = 1000000000 from rfl, rk_full hP, rk_full hQ, rk_full hR, rk_full hS] at this
  exact this
theorem sz_parts {P Q R : List Rn} (hP : form 1 P) (hQ : form 1 Q) (hR : form 1 R)
    (h : ∀ n, (mem P n ∨ mem Q n ↔ mem R n) ∧ ¬ (mem P n ∧ mem Q n)) : sz P + sz Q = sz R := by
  have := sz_pairs hP hQ hR (S := []) trivial (fun n => ⟨by rw [(h n).1]; exact ⟨Or.inl, fun e => e.elim id (fun e => absurd e (mem_nil n))⟩, fun e => absurd e (h n).2, fun e => absurd e.2 (mem_nil n)⟩)
  simpa [sz] using this
theorem sz_top {a : List Rn} (h : form 1 a) : 0 ≤ sz a ∧ sz a ≤ 1000000000 := by
  have hz := sz_bd h
  refine ⟨hz.1, ?_⟩
  rcases hz.2.1 with e | e
  · rw [e]; simp [sz]
  · omega
end Go.Proofs.YtojpjakpcihacaaGreat

namespace Go.Proofs.YtojpjakpcihacaaGreat
open Go.RowKit
attribute [local go_sem ↓] ldR_eq stR_eq
attribute [local go_sem] zero_RC cells_RV RC_size fold_RC

def LeadOf (A : List Rn) (k : Int) (L : List Rn) : Prop := form 1 L ∧ 0 ≤ k ∧ k ≤ 1000000000 ∧ (∀ X, NormOf A X → k + sz L = sz X) ∧ (∀ r L', L = r :: L' → k + 2 ≤ r.lo) ∧ ∃ X, NormOf A X ∧ ((k = 0 ∧ X = L ∧ ∀ r X', X = r :: X' → r.lo ≠ 1) ∨ X = ⟨1, k⟩ :: L)
def GivesL (w w' : World) (e : Ending) (A : List Rn) : Prop := ∃ k a1 n1 c1 L, e = .returned (.tuple #[.int .i64 k, .slice a1 n1 c1]) ∧ RSrc w' a1 n1 c1 L ∧ LeadOf A k L ∧ Below w.heap.size w w' ∧ ∀ ad, a1 = some ad → w.heap.size ≤ ad.block
set_option maxRecDepth 100000 in
set_option maxHeartbeats 1000000 in
theorem lead_any (ao : Option Addr) (n cap : Nat) (A : List Rn) (w : World) (hS : RSrc w ao n cap A) :
    Calls Tryz.prog 121 #[.slice ao n cap] w fun e w' => GivesL w w' e A := by
  have HS := hide hS
  clear hS
  go_enter Tryz.func121, Tryz.ntmps121
  go_wp2_with fail
  refine (norm_new ao n cap A _ HS.out).mono ?_
  rintro e w1 ⟨a1, n1, c1, X, rfl, S1, b1, f1', p1⟩
  have HFR := hide f1'
  have HS1 := hide S1
  have HP1 := hide p1
  have HB1 := hide b1
  have hn := S1.big
  have hc := S1.cap
  have hrm := S1.room
  unfold maxLen at hrm
  have HL : Hid (X.length = n1) := S1.len
  clear S1 b1 p1 f1'
  cases X with
  | nil =>
    obtain rfl : n1 = 0 := HL.out.symm
    have HF : Hid (LeadOf A 0 []) := ⟨trivial, by omega, by omega, fun Y hY => by rw [hY.unique HP1.out]; simp, (fun r L' e => by cases e), ⟨[], HP1.out, Or.inl ⟨rfl, rfl, (fun r X' e => by cases e)⟩⟩⟩
    go_wp2_with fail
    go_ret2
    exact (⟨_, _, _, _, _, rfl, HS1.out, HF.out, HB1.out, HFR.out⟩ : GivesL _ _ _ _)
  | cons r X =>
    have hn1 : 0 < n1 := by rw [← HL.out]; simp
    obtain ⟨ad, rfl, _⟩ := HS1.out.at 0 (by omega)
    obtain ⟨b, o, rfl⟩ := HS1.out.spot (by omega)
    obtain ⟨q0, q1⟩ := HS1.out.nums 0 (by omega)
    simp [List.getD] at q0 q1
    have f1 := HP1.out.1.1
    have f2 := HP1.out.1.2.1
    have f3 := HP1.out.1.2.2.1
    have d0 : ((n1 : Int) == 0) = false := by simp; omega
    have HT := hide HS1.out.tail'
    by_cases h1 : r.lo = 1
    · have d1 : (r.lo != 1) = false := by simpa using h1
      have HF : Hid (LeadOf A r.hi X) := ⟨form_mono (by omega) HP1.out.1.2.2.2, by omega, by omega, fun Y hY => by rw [hY.unique HP1.out, sz_cons]; omega, fun s L' e => by
        have := HP1.out.1.2.2.2
        rw [e] at this
        exact this.1, ⟨_, HP1.out, Or.inr (by obtain ⟨r1, r2⟩ := r; simp only at h1; subst h1; rfl)⟩⟩
      clear h1
      by_cases hcc : c1 = 1
      · subst hcc
        obtain rfl : n1 = 1 := by omega
        have HT1 : RSrc w1 (some ⟨b, o, none⟩) 0 0 X := HT.out
        replace HT := hide HT1
        clear HT1
        have k1 := cell_regrown q1
        go_wp2_with fail
        refine wp_region_quiet_below (by kernel_rfl) (by kernel_rfl) ?_
        repeat (with_reducible (refine wpQuiet_step ?_); intro K hK; go_simp; (try rw [if_neg (by unfold undef; simp)]); first | (with_reducible (refine hK _ ?_); clear hK K) | (apply Exists.intro; refine ⟨fun _ => ?_, hK _ ?_⟩; (fail); clear hK K))
        with_reducible (refine wpQuiet_nil ?_)
        intro w5 hw'
        obtain ⟨⟨dq, osq⟩, hw''⟩ := hw'
        have b5 : Below w1.heap.size w1 w5 := by rw [hw'']; exact below_regrown w1 dq osq
        clear hw'' dq osq
        have HT5 := hide (HT.out.below b5)
        have HB5 := hide (HB1.out.trans (b5.mono HB1.out.size))
        have HN : Hid (GivesL w w5 (.returned (.tuple #[.int .i64 r.hi, .slice (some ⟨b, o, none⟩) 0 0])) A) := ⟨_, _, _, _, X, rfl, HT5.out, HF.out, HB5.out, (fun ad h => by obtain rfl := Option.some.inj h; exact HFR.out ⟨b, o, none⟩ rfl)⟩
        clear b5 k1
        go_wp2_with fail
        go_ret2
        exact HN.out
      · have HT1 := HT.out
        rw [if_neg hcc] at HT1
        replace HT := hide HT1
        clear HT1
        have k1 := cell_regrown q1
        have hni : (1 : Int) ≤ (n1 : Int) := by omega
        go_wp2_with fail
        refine wp_region_quiet_below (by kernel_rfl) (by kernel_rfl) ?_
        repeat (with_reducible (refine wpQuiet_step ?_); intro K hK; go_simp; (try rw [if_neg (by unfold undef; simp)]); first | (with_reducible (refine hK _ ?_); clear hK K) | (apply Exists.intro; refine ⟨fun _ => ?_, hK _ ?_⟩; (fail); clear hK K))
        with_reducible (refine wpQuiet_nil ?_)
        intro w5 hw'
        obtain ⟨⟨dq, osq⟩, hw''⟩ := hw'
        have b5 : Below w1.heap.size w1 w5 := by rw [hw'']; exact below_regrown w1 dq osq
        clear hw'' dq osq
        have HT5 := hide (HT.out.below b5)
        have HB5 := hide (HB1.out.trans (b5.mono HB1.out.size))
        have HN : Hid (GivesL w w5 (.returned (.tuple #[.int .i64 r.hi, .slice (some ⟨b, o + 2, none⟩) (n1 - 1) (c1 - 1)])) A) := ⟨_, _, _, _, X, rfl, HT5.out, HF.out, HB5.out, (fun ad h => by obtain rfl := Option.some.inj h; exact HFR.out ⟨b, o, none⟩ rfl)⟩
        clear b5 k1
        go_wp2_with fail
        go_ret2
        exact HN.out
    · have d1 : (r.lo != 1) = true := by simpa using h1
      have HF : Hid (LeadOf A 0 (r :: X)) := ⟨HP1.out.1, by omega, by omega, fun Y hY => by rw [hY.unique HP1.out]; simp, fun s L' e => by
        injection e with e1 e2
        subst e1
        omega, ⟨_, HP1.out, Or.inl ⟨rfl, rfl, fun s X' e => by injection e with e1 e2; subst e1; exact h1⟩⟩⟩
      clear h1
      go_wp2_with fail
      go_ret2
      exact (⟨_, _, _, _, _, rfl, HS1.out, HF.out, HB1.out, HFR.out⟩ : GivesL _ _ _ _)
end Go.Proofs.YtojpjakpcihacaaGreat
