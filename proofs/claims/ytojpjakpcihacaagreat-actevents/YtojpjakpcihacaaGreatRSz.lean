/- span's length and Size: their contracts. -/
import Derived.Test.YtojpjakpcihacaaGreatRNo
namespace Go.Proofs.YtojpjakpcihacaaGreat
open Go.RowKit
attribute [local go_sem ↓] ldR_eq stR_eq
attribute [local go_sem] zero_RC cells_RV RC_size fold_RC

theorem RSrc.tail' {w : World} {b o m c : Nat} {r : Rn} {L : List Rn} (h : RSrc w (some ⟨b, o, none⟩) m c (r :: L)) : RSrc w (if c = 1 then some ⟨b, o, none⟩ else some ⟨b, o + 2, none⟩) (m - 1) (c - 1) L := by
  by_cases e : c = 1
  · rw [if_pos e]
    have h1 := h.len
    have h2 := h.cap
    simp at h1
    exact ⟨by omega, fun e => (by cases e), fun ad ha t ht => by omega, by omega, by omega, by omega⟩
  · rw [if_neg e]
    exact h.tail
theorem length_any (r : Rn) (w : World) (h1 : 1 ≤ r.lo) (h2 : r.hi ≤ 1000000000) (h3 : r.lo ≤ r.hi) : Calls Tryz.prog 97 #[RV r] w fun e w' => e = .returned (.int .i64 (r.hi - r.lo + 1)) ∧ Below w.heap.size w w' := by
  have HB := hide (below_new w (.cells (RC r) 107))
  have X1 := box_new w 107 r
  have c0 := X1.at.c0
  have c1 : (w.alloc (.cells (RC r) 107)).cell? ⟨w.heap.size, 1, none⟩ = some (.int .i64 r.hi) := X1.at.c1
  have e1 : IntKind.i64.wrap (r.hi - r.lo) = r.hi - r.lo := by rw [IntKind.wrap_i64]; omega
  have e2 : IntKind.i64.wrap (r.hi - r.lo + 1) = r.hi - r.lo + 1 := by rw [IntKind.wrap_i64]; omega
  clear X1
  go_enter Tryz.func97, Tryz.ntmps97
  go_wp2_with fail
  go_ret
  exact ⟨by simp, HB.out⟩
theorem form_at : ∀ {a : List Rn} {l : Int} (k : Nat), 1 ≤ l → form l a → k < a.length → 1 ≤ (a.getD k rn0).lo ∧ (a.getD k rn0).lo ≤ (a.getD k rn0).hi ∧ (a.getD k rn0).hi ≤ 1000000000
  | r :: a, l, 0, hl, h, _ => by have := h.1; have := h.2.1; have := h.2.2.1; simp [List.getD]; omega
  | r :: a, l, k + 1, hl, h, hk => by
    have := form_at k (l := r.hi + 2) (by have := h.1; have := h.2.1; omega) h.2.2.2 (by simpa using hk)
    simpa [List.getD] using this
/-- how many numbers the set has -/
def SizeOf (A : List Rn) (k : Int) : Prop := ∃ R, NormOf A R ∧ k = sz R
set_option maxRecDepth 100000 in
set_option maxHeartbeats 4000000 in
theorem size_any (ao : Option Addr) (n cap : Nat) (A : List Rn) (w : World) (hS : RSrc w ao n cap A) :
    Calls Tryz.prog 72 #[.slice ao n cap] w fun e w' => ∃ k, e = .returned (.int .i64 k) ∧ SizeOf A k ∧ Below w.heap.size w w' := by
  have HS := hide hS
  clear hS
  go_enter Tryz.func72, Tryz.ntmps72
  go_wp2_with fail
  refine (norm_any ao n cap A _ HS.out).mono ?_
  rintro e w1 ⟨a1, n1, c1, X, rfl, S1, b1, p1⟩
  have HS1 := hide S1
  have HP1 := hide p1
  have HB1 := hide b1
  have HL : Hid (X.length = n1) := S1.len
  have hn := S1.big
  have hz := sz_bd p1.1
  have HZ := hide hz.2.1
  have hz0 : sz X ≤ 1000000000 := by
    rcases hz.2.1 with e | e
    · rw [e]; simp [sz]
    · omega
  clear S1 b1 p1 hz
  go_wp2_with fail
  go_loopw [3, 5, 9] (fun v _ i wr => ∃ (k : Nat), k ≤ n1 ∧ v = .int .i64 (sz (X.take k)) ∧ i = .int .i64 k ∧ Hid (Below w1.heap.size w1 wr)) (fun _ _ i _ => n1 - (intOf i).toNat)
  case atStart => exact ⟨0, Nat.zero_le _, rfl, rfl, Below.refl _ _⟩
  case round =>
    obtain ⟨k, hk, rfl, rfl, H⟩ := hrel
    rename World => w4
    have hs1 := sz_take X 1 k HP1.out.1
    by_cases hlt : k < n1
    · obtain ⟨ad, rfl, A0⟩ := (HS1.out.below H.out).at k hlt
      have hld := run_ldR A0
      have hfa := form_at k (Int.le_refl _) HP1.out.1 (by rw [HL.out]; exact hlt)
      obtain ⟨r, Hr⟩ : ∃ r, Hid (X.getD k rn0 = r) := ⟨_, rfl⟩
      rw [Hr.out] at hld hfa
      have hkl : k < X.length := by rw [HL.out]; exact hlt
      have hs2 := sz_take X 1 (k + 1) HP1.out.1
      have HT : Hid (sz (X.take (k + 1)) = sz (X.take k) + (r.hi - r.lo + 1)) := by
        show _ = _
        rw [List.take_succ_eq_append_getElem hkl, sz_append, show X[k] = r by rw [← Hr.out]; simp [List.getD, hkl]]
        simp [sz]
      have hT := HT.out
      obtain ⟨s, hs⟩ : ∃ s, sz (X.take k) = s := ⟨_, rfl⟩
      rw [hs] at hs1 hT ⊢
      have HSS := hide hs
      have hw1 : IntKind.i64.wrap (s + (r.hi - r.lo + 1)) = s + (r.hi - r.lo + 1) := by rw [IntKind.wrap_i64]; omega
      obtain ⟨w5, hst, X5, B5, Z5⟩ := made w4 r w4.heap.size rfl
      have lx := run_ldR X5.at
      have HB5 := hide (H.out.trans (B5.mono H.out.size))
      have HLN := hide (length_any r w5 hfa.1 hfa.2.2 hfa.2.1)
      clear A0 X5 B5 Z5 hkl hT hs hs2 hfa
      go_wp2_with fail
      refine HLN.out.mono ?_
      rintro e w6 ⟨rfl, b6⟩
      have HB6 := hide (HB5.out.trans (b6.mono HB5.out.size))
      clear b6
      go_wp2_with fail
      go_roundw
      case rel => exact ⟨k + 1, by omega, by rw [HT.out, HSS.out], by go_num, HB6⟩
      case measure => simp [intOf]; omega
    · obtain rfl : k = n1 := by omega
      have HF : Hid (SizeOf A (sz (X.take k))) := ⟨X, HP1.out, by rw [List.take_of_length_le (by rw [HL.out]; exact Nat.le_refl _)]⟩
      have HBF := hide (HB1.out.trans (H.out.mono HB1.out.size))
      go_wp2_with fail
      go_ret
      exact ⟨_, rfl, HF.out, HBF.out⟩
end Go.Proofs.YtojpjakpcihacaaGreat
