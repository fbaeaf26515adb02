import Derived.Test.YtiogmeaianogmaaVKb
import Derived.Test.YtiogmeaianogmaaPPl
import Derived.Test.YtiogmeaianogmaaPCl
import Derived.Test.YtiogmeaianogmaaPMd
import Derived.Test.YtiogmeaianogmaaPSo
import Derived.Test.YtiogmeaianogmaaPY1
import Derived.Test.YtiogmeaianogmaaPKa
import Derived.Test.YtiogmeaianogmaaRMr
/- The form of a list, plainly; vector's IsNorm: its contract. -/
namespace Go.Proofs.Ytiogmeaianogmaa.V
open Go.RowKit

theorem topN_zero (f : Nat → Int) (k : Nat) : ∀ r, topN f k ≤ r → r < k → f r = 0 := by
  induction k with
  | zero => intro r _ h; omega
  | succ k ih =>
    intro r h1 h2
    unfold topN at h1
    split at h1
    · by_cases e : r = k
      · subst e; assumption
      · exact ih r h1 (by omega)
    · omega
theorem topN_last (f : Nat → Int) (k : Nat) (h : topN f k ≠ 0) : f (topN f k - 1) ≠ 0 := by
  induction k with
  | zero => simp [topN] at h
  | succ k ih =>
    unfold topN at h ⊢
    split
    · rename_i e; rw [if_pos e] at h; exact ih h
    · rename_i e; simpa using e
theorem top_zero (f : Nat → Int) (r : Nat) (h1 : top f ≤ r) (h2 : r < 16) : f r = 0 := topN_zero f 16 r h1 h2
theorem top_last (f : Nat → Int) (h : top f ≠ 0) : f (top f - 1) ≠ 0 := topN_last f 16 h
theorem top_unique (f : Nat → Int) (n : Nat) (h16 : n ≤ 16) (h1 : ∀ r, n ≤ r → r < 16 → f r = 0) (h2 : n = 0 ∨ f (n - 1) ≠ 0) : top f = n := by
  have a := top_le f
  rcases Nat.lt_trichotomy (top f) n with h | h | h
  · rcases h2 with h2 | h2
    · omega
    · exact absurd (top_zero f (n - 1) (by omega) (by omega)) h2
  · exact h
  · exact absurd (h1 (top f - 1) (by omega) (by omega)) (top_last f (by omega))
theorem short_at (f : Nat → Int) (k : Nat) (h : k < top f) : (short f).getD k 0 = f k := by simp [short, List.getD, h]
theorem short_getD (f : Nat → Int) (k : Nat) (h : k < 16) : (short f).getD k 0 = f k := by
  by_cases hk : k < top f
  · exact short_at f k hk
  · rw [top_zero f k (by omega) h]; simp [short, List.getD, hk]
theorem short_congr {f g : Nat → Int} (h : ∀ r, r < 16 → f r = g r) : short f = short g := by
  have e : top f = top g := by
    have a := top_le g
    refine top_unique f (top g) a (fun r h1 h2 => by rw [h r h2]; exact top_zero g r h1 h2) ?_
    by_cases h0 : top g = 0
    · exact Or.inl h0
    · exact Or.inr (by rw [h _ (by omega)]; exact top_last g h0)
  unfold short
  rw [e]
  apply List.map_congr_left
  intro r hr
  have a := top_le g
  exact h r (by simp at hr; omega)
theorem clamp_id {z : Int} (h : 0 ≤ z ∧ z ≤ 1000000000) : clamp z = z := by unfold clamp; rw [if_neg (by omega), if_neg (by omega)]
theorem short_inj {f g : Nat → Int} (h : short f = short g) : ∀ r, r < 16 → f r = g r := by
  intro r hr
  rw [← short_getD f r hr, ← short_getD g r hr, h]

theorem not_long (Z : List Int) (h : 16 < Z.length) : decide (Z = short (at' Z)) = false := by
  rw [decide_eq_false_iff_not]
  intro e
  have a := top_le (at' Z)
  have := congrArg List.length e
  rw [short_length] at this
  omega
theorem not_wide (Z : List Int) (k : Nat) (hk : k < Z.length) (h : ¬ (0 ≤ Z.getD k 0 ∧ Z.getD k 0 ≤ 1000000000)) : decide (Z = short (at' Z)) = false := by
  rw [decide_eq_false_iff_not]
  intro e
  apply h
  have hl := congrArg List.length e
  rw [short_length] at hl
  rw [e, short_at _ k (by omega)]
  exact at'_bd Z k
theorem not_nought (Z : List Int) (h0 : 0 < Z.length) (h : Z.getD (Z.length - 1) 0 = 0) : decide (Z = short (at' Z)) = false := by
  rw [decide_eq_false_iff_not]
  intro e
  have hl := congrArg List.length e
  rw [short_length] at hl
  have h1 := top_last (at' Z) (by omega)
  have h2 := short_at (at' Z) (top (at' Z) - 1) (by omega)
  rw [← e, ← hl] at h2
  rw [← hl, ← h2] at h1
  exact h1 h
theorem is_form (Z : List Int) (h16 : Z.length ≤ 16) (hw : ∀ k, k < Z.length → 0 ≤ Z.getD k 0 ∧ Z.getD k 0 ≤ 1000000000) (h0 : Z.length = 0 ∨ Z.getD (Z.length - 1) 0 ≠ 0) : decide (Z = short (at' Z)) = true := by
  rw [decide_eq_true_iff]
  have hat : ∀ r, r < Z.length → at' Z r = Z.getD r 0 := fun r hr => by unfold at'; rw [if_pos (by omega)]; exact clamp_id (hw r hr)
  have ht : top (at' Z) = Z.length := by
    refine top_unique _ _ h16 (fun r h1 h2 => ?_) ?_
    · unfold at'; rw [if_pos h2, List.getD, List.getElem?_eq_none h1]; rfl
    · rcases h0 with h | h
      · exact Or.inl h
      · by_cases hz : Z.length = 0
        · exact Or.inl hz
        · exact Or.inr (by rw [hat _ (by omega)]; exact h)
  apply List.ext_getElem
  · rw [short_length, ht]
  · intro i h1 h2
    have e1 : (short (at' Z)).getD i 0 = at' Z i := short_at _ i (by omega)
    rw [hat i h1] at e1
    simp only [List.getD, List.getElem?_eq_getElem h1, List.getElem?_eq_getElem h2, Option.getD_some] at e1
    exact e1.symm

theorem Src.at {w : World} {ao : Option Addr} {n c : Nat} {Z : List Int} (S : Src w ao n c Z) (k : Nat) (h : k < n) : ∃ ad, ao = some ad ∧ w.cell? (ad.add k) = some (.int .i64 (Z.getD k 0)) := by
  cases ao with
  | none => have := S.2.1 rfl; omega
  | some ad => exact ⟨ad, rfl, S.2.2 ad rfl k h⟩
set_option maxHeartbeats 800000 in
theorem isNorm_any (ao : Option Addr) (n cap : Nat) (Z : List Int) (w : World) (hS : Src w ao n cap Z) :
    Calls Try.prog 83 #[.slice ao n cap] w fun e w' => e = .returned (.bool (decide (Z = short (at' Z)))) ∧ Below w.heap.size w w' := by
  have HS := hide hS
  have hl := hS.1
  have HL := hide hl
  clear hS
  by_cases h16 : 16 < n
  · have HF := hide (not_long Z (by omega))
    have h16' : (16 : Int) < n := by omega
    clear hl
    go_enter Try.func83, Try.ntmps83
    go_wp2
    go_ret
    exact ⟨ret_bool HF.out.symm, Below.refl _ _⟩
  have h16' : ¬ (16 : Int) < n := by omega
  clear hl
  go_enter Try.func83, Try.ntmps83
  go_wp2
  go_loopw [10] (fun i wr => ∃ k : Nat, k ≤ n ∧ i = .int .i64 k ∧ Hid (∀ j, j < k → 0 ≤ Z.getD j 0 ∧ Z.getD j 0 ≤ 1000000000) ∧ wr = w) (fun i _ => n - (intOf i).toNat)
  case atStart => exact ⟨0, Nat.zero_le _, rfl, fun j h => (by omega), by trivial⟩
  case round =>
    obtain ⟨k, hk, rfl, HW, rfl⟩ := hrel
    by_cases hlt : k < n
    · obtain ⟨ad, rfl, ca⟩ := HS.out.at k hlt
      obtain ⟨z, HX⟩ : ∃ z, Hid (Z.getD k 0 = z) := ⟨_, rfl⟩
      rw [HX.out] at ca
      by_cases h1 : z < 0
      · have HF := hide (not_wide Z k (by have := HL.out; omega) (by rw [HX.out]; omega))
        go_wp2
        go_ret
        exact ⟨ret_bool HF.out.symm, Below.refl _ _⟩
      · by_cases h2 : 1000000000 < z
        · have HF := hide (not_wide Z k (by have := HL.out; omega) (by rw [HX.out]; omega))
          go_wp2
          go_ret
          exact ⟨ret_bool HF.out.symm, Below.refl _ _⟩
        · go_wp2
          go_roundw
          case rel =>
            refine ⟨k + 1, by omega, by go_num, fun j hj => ?_, by trivial⟩
            by_cases e : j = k
            · subst e; rw [HX.out]; omega
            · exact HW.out j (by omega)
          case measure => simp [intOf]; omega
    · obtain rfl : k = n := by omega
      by_cases h0 : k = 0
      · subst h0
        have HF := hide (is_form Z (by have := HL.out; omega) (fun j hj => HW.out j (by have := HL.out; omega)) (Or.inl HL.out))
        go_wp2
        go_ret
        exact ⟨ret_bool HF.out.symm, Below.refl _ _⟩
      · have hk0 : ((k : Int) == 0) = false := by simpa using h0
        obtain ⟨ad, rfl, ca⟩ := HS.out.at (k - 1) (by omega)
        obtain ⟨z, HX⟩ : ∃ z, Hid (Z.getD (k - 1) 0 = z) := ⟨_, rfl⟩
        rw [HX.out] at ca
        have hi : ((k : Int) - 1).toNat = k - 1 := by omega
        have hA : (1 : Int) ≤ k := by omega
        by_cases hz : z = 0
        · have HF := hide (not_nought Z (by have := HL.out; omega) (by rw [HL.out, HX.out]; exact hz))
          have hz' : (z != 0) = false := by simp [hz]
          clear hz
          go_wp2
          go_ret
          exact ⟨ret_bool HF.out.symm, Below.refl _ _⟩
        · have HF := hide (is_form Z (by have := HL.out; omega) (fun j hj => HW.out j (by have := HL.out; omega)) (Or.inr (by rw [HL.out, HX.out]; exact hz)))
          have hz' : (z != 0) = true := by simp [hz]
          clear hz
          go_wp2
          go_ret
          exact ⟨ret_bool HF.out.symm, Below.refl _ _⟩
end Go.Proofs.Ytiogmeaianogmaa.V
/- The cloud of a past in form: each span behind the one ahead; plain. -/
namespace Go.Proofs.Ytiogmeaianogmaa
open Go.RowKit

/-- the span c may stand behind the span a -/
structure StepOk (Z : List Int) (a c : Sn) : Prop where
  isr : V.isR c.rep = true
  rep : a.rep ≤ c.rep
  lead : V.atI Z c.rep + 2 ≤ c.lo
  gap : c.rep = a.rep → a.hi + 2 ≤ c.lo
  ord : c.lo ≤ c.hi
  top : c.hi ≤ 1000000000
def chain (Z : List Int) : Sn → List Sn → Prop
  | _, [] => True
  | a, c :: t => StepOk Z a c ∧ chain Z c t
def lastS : Sn → List Sn → Sn
  | a, [] => a
  | _, c :: t => lastS c t
theorem lastS_append (a : Sn) (L M : List Sn) : lastS a (L ++ M) = lastS (lastS a L) M := by
  induction L generalizing a with
  | nil => rfl
  | cons c t ih => exact ih c
theorem lastS_snoc (a c : Sn) (L : List Sn) : lastS a (L ++ [c]) = c := by rw [lastS_append]; rfl
theorem chain_append (Z : List Int) (a : Sn) (L M : List Sn) : chain Z a (L ++ M) ↔ chain Z a L ∧ chain Z (lastS a L) M := by
  induction L generalizing a with
  | nil => simp [chain, lastS]
  | cons c t ih =>
    show StepOk Z a c ∧ chain Z c (t ++ M) ↔ (StepOk Z a c ∧ chain Z c t) ∧ chain Z (lastS c t) M
    rw [ih c, and_assoc]
theorem chain_snoc (Z : List Int) (a c : Sn) (L : List Sn) : chain Z a (L ++ [c]) ↔ chain Z a L ∧ StepOk Z (lastS a L) c := by
  rw [chain_append]
  simp [chain]
end Go.Proofs.Ytiogmeaianogmaa
/- Pasts in form, as a walk over the cloud tells them; plain. -/
namespace Go.Proofs.Ytiogmeaianogmaa
open Go.RowKit

theorem isR_nat {k : Nat} (h : k < 16) : V.isR (k : Int) = true := by simp [V.isR]; omega
theorem atI_nat (Z : List Int) {k : Nat} (h : k < 16) : V.atI Z (k : Int) = V.at' Z k := by unfold V.atI; rw [if_pos (isR_nat h), Int.toNat_natCast]
theorem chain_tag (Z : List Int) (k : Nat) (hk : k < 16) : ∀ (L : List Rn) (a : Sn) (l : Int), a.rep ≤ (k : Int) → V.at' Z k + 2 ≤ l → (a.rep = (k : Int) → a.hi + 2 ≤ l) → form l L → chain Z a (tag k L)
  | [], _, _, _, _, _, _ => trivial
  | r :: t, a, l, ha, hl, hg, h => by
    have h1 := h.1
    have h2 := h.2.1
    have h3 := h.2.2.1
    refine ⟨⟨isR_nat hk, ha, ?_, fun e => ?_, h2, h3⟩, chain_tag Z k hk t _ (r.hi + 2) (Int.le_refl _) ?_ (fun _ => Int.le_refl _) h.2.2.2⟩
    · show V.atI Z (k : Int) + 2 ≤ r.lo
      rw [atI_nat Z hk]; omega
    · have := hg e.symm
      show a.hi + 2 ≤ r.lo
      omega
    · omega
theorem last_tag (a : Sn) (k : Nat) : ∀ (L : List Rn), L = [] ∨ (lastS a (tag k L)).rep = (k : Int)
  | [] => Or.inl rfl
  | r :: t => by
    right
    rcases last_tag ⟨(k : Int), r.lo, r.hi⟩ k t with h | h
    · subst h; rfl
    · exact h
theorem form_rest {X : List Rn} (h : form 1 X) : form (leadOf X + 2) (restOf X) := by
  cases X with
  | nil => trivial
  | cons r t =>
    by_cases e : r.lo = 1
    · simp only [leadOf, restOf, if_pos e]
      exact h.2.2.2
    · simp only [leadOf, restOf, if_neg e]
      have := h.1
      exact ⟨by omega, h.2⟩
theorem chain_cloudN {N : Nat → List Rn} {Z : List Int} (hN : ∀ r, r < 16 → form 1 (N r)) (hZ : ∀ r, r < 16 → V.at' Z r = leadOf (N r)) : ∀ k, k ≤ 16 → chain Z sn0 (cloudN N k) ∧ (cloudN N k = [] ∨ (lastS sn0 (cloudN N k)).rep < (k : Int))
  | 0, _ => ⟨trivial, Or.inl rfl⟩
  | k + 1, hk => by
    obtain ⟨h1, h2⟩ := chain_cloudN hN hZ k (by omega)
    have hb := leadOf_bd (hN k (by omega))
    rw [cloudN, chain_append, lastS_append]
    refine ⟨⟨h1, chain_tag Z k (by omega) _ _ (leadOf (N k) + 2) ?_ (by rw [hZ k (by omega)]; exact Int.le_refl _) (fun e => ?_) (form_rest (hN k (by omega)))⟩, ?_⟩
    · rcases h2 with h | h
      · rw [h]; show (0 : Int) ≤ _; omega
      · omega
    · rcases h2 with h | h
      · rw [h]; show (0 : Int) + 2 ≤ _; omega
      · omega
    · rcases last_tag (lastS sn0 (cloudN N k)) k (restOf (N k)) with h | h
      · rcases h2 with g | g
        · left; rw [g, h]; rfl
        · right; rw [h]; show (lastS sn0 (cloudN N k)).rep < _; omega
      · right; rw [h]; omega
/-- the tagged lists of the first k replicas -/
def catT (G : Nat → List Rn) : Nat → List Sn
  | 0 => []
  | k + 1 => catT G k ++ tag k (G k)
theorem cloudN_cat (N : Nat → List Rn) : ∀ k, cloudN N k = catT (fun r => restOf (N r)) k
  | 0 => rfl
  | k + 1 => by rw [cloudN, catT, cloudN_cat N k]
theorem catT_congr {G G' : Nat → List Rn} : ∀ k, (∀ r, r < k → G r = G' r) → catT G k = catT G' k
  | 0, _ => rfl
  | k + 1, h => by rw [catT, catT, catT_congr k (fun r hr => h r (by omega)), h k (by omega)]
theorem catT_snoc (G : Nat → List Rn) (q : Nat) (x : Rn) (hG : ∀ r, q < r → G r = []) : ∀ k, catT (fun r => if r = q then G r ++ [x] else G r) k = catT G k ++ (if q < k then [⟨(q : Int), x.lo, x.hi⟩] else [])
  | 0 => by simp [catT]
  | k + 1 => by
    rw [catT, catT, catT_snoc G q x hG k]
    by_cases h : k = q
    · subst h; simp [tag]
    · by_cases h' : q < k
      · simp [h, h', hG k h', show q < k + 1 by omega, tag]
      · simp [h, h', show ¬ q < k + 1 by omega]
theorem form_push' {acc : List Rn} {r : Rn} {l : Int} (h : form l acc) (hg : ∀ i x, acc = i ++ [x] → x.hi + 2 ≤ r.lo) (h1 : l ≤ r.lo) (h2 : r.lo ≤ r.hi) (h3 : r.hi ≤ 1000000000) : form l (acc ++ [r]) := by
  rcases List.eq_nil_or_concat acc with e | ⟨i, x, e⟩
  · subst e; exact ⟨h1, h2, h3, trivial⟩
  · rw [List.concat_eq_append] at e
    subst e
    exact form_snoc h (hg i x rfl) h2 h3
theorem chain_cat (Z : List Int) : ∀ (n : Nat) (L : List Sn), L.length = n → chain Z sn0 L → L = catT (cloudPart L) 16 ∧ (∀ r, r < 16 → form (V.at' Z r + 2) (cloudPart L r)) ∧ (∀ r : Nat, (lastS sn0 L).rep < (r : Int) → cloudPart L r = []) ∧ (∀ (q : Nat) i x, (q : Int) = (lastS sn0 L).rep → cloudPart L q = i ++ [x] → x.hi = (lastS sn0 L).hi)
  | 0, L, hn, _ => by
    obtain rfl := List.eq_nil_of_length_eq_zero hn
    have e : ∀ r, cloudPart [] r = [] := fun r => by simp [cloudPart]
    refine ⟨?_, fun r _ => by rw [e]; trivial, fun r _ => e r, fun q i x _ h => by rw [e] at h; simp at h⟩
    rw [catT_congr (G' := fun _ => []) 16 (fun r _ => e r)]
    rfl
  | n + 1, L, hn, h => by
    rcases List.eq_nil_or_concat L with e | ⟨M, c, e⟩
    · subst e; simp at hn
    · rw [List.concat_eq_append] at e
      subst e
      rw [chain_snoc] at h
      obtain ⟨i1, i2, i3, i4⟩ := chain_cat Z n M (by simpa using hn) h.1
      have S := h.2
      obtain ⟨q, hq, hq16⟩ : ∃ q : Nat, c.rep = (q : Int) ∧ q < 16 := by
        have := S.isr
        simp [V.isR] at this
        exact ⟨c.rep.toNat, by omega, by omega⟩
      have hp : ∀ r, cloudPart (M ++ [c]) r = if r = q then cloudPart M r ++ [⟨c.lo, c.hi⟩] else cloudPart M r := fun r => by
        rw [cloudPart_snoc]
        by_cases e : r = q
        · subst e; simp [hq]
        · have : ¬ c.rep = (r : Int) := by rw [hq]; omega
          simp [e, this]
      have hlast : (lastS sn0 (M ++ [c])) = c := lastS_snoc _ _ _
      refine ⟨?_, fun r hr => ?_, fun r hr => ?_, fun q' i x e1 e2 => ?_⟩
      · rw [catT_congr (G' := fun r => if r = q then cloudPart M r ++ [⟨c.lo, c.hi⟩] else cloudPart M r) 16 (fun r _ => hp r), catT_snoc (cloudPart M) q ⟨c.lo, c.hi⟩ (fun r hr => i3 r (by have := S.rep; omega)) 16, if_pos hq16, ← i1]
        have hc : c = ⟨(q : Int), c.lo, c.hi⟩ := by rw [← hq]
        exact congrArg (fun x => M ++ [x]) hc
      · rw [hp r]
        by_cases e : r = q
        · subst e
          rw [if_pos rfl]
          refine form_push' (i2 r hr) (fun i x hx => ?_) ?_ S.ord S.top
          · by_cases e2 : c.rep = (lastS sn0 M).rep
            · have h1 := i4 r i x (by rw [← e2, hq]) hx
              have h2 := S.gap e2
              show x.hi + 2 ≤ c.lo
              omega
            · have := i3 r (by have := S.rep; omega)
              rw [this] at hx
              simp at hx
          · have := S.lead
            rw [hq, atI_nat Z hr] at this
            exact this
        · rw [if_neg e]; exact i2 r hr
      · rw [hlast, hq] at hr
        rw [hp r, if_neg (by omega)]
        exact i3 r (by have := S.rep; omega)
      · rw [hlast, hq] at e1
        obtain rfl : q' = q := by omega
        rw [hp q', if_pos rfl] at e2
        have := List.append_inj' e2 rfl
        rw [hlast]
        have h2 := this.2
        simp at h2
        rw [← h2]
/-- a past in its own form -/
def Canon (P : Pst) : Prop := CanonOf (runsAt P) P
theorem canon_of_chain {P : Pst} (hv : P.vec = V.short (V.at' P.vec)) (hc : chain P.vec sn0 P.cloud) : Canon P := by
  obtain ⟨h1, h2, _, _⟩ := chain_cat P.vec _ P.cloud rfl hc
  have key : ∀ r, r < 16 → form 1 (runsAt P r) ∧ leadOf (runsAt P r) = V.at' P.vec r ∧ restOf (runsAt P r) = cloudPart P.cloud r := by
    intro r hr
    have hb := V.at'_bd P.vec r
    have hf := h2 r hr
    unfold runsAt vecPart
    by_cases h0 : 0 < V.at' P.vec r
    · rw [if_pos h0]
      exact ⟨⟨Int.le_refl _, (show (1 : Int) ≤ V.at' P.vec r by omega), hb.2, hf⟩, rfl, rfl⟩
    · rw [if_neg h0]
      have e0 : V.at' P.vec r = 0 := by omega
      rw [e0] at hf ⊢
      rw [List.nil_append]
      refine ⟨form_mono (by omega) hf, ?_⟩
      cases hcp : cloudPart P.cloud r with
      | nil => exact ⟨rfl, rfl⟩
      | cons x t =>
        rw [hcp] at hf
        have := hf.1
        have hne : ¬ x.lo = 1 := by omega
        simp [leadOf, restOf, hne]
  refine ⟨runsAt P, fun r hr => NormOf.self (key r hr).1, ?_⟩
  unfold canonP
  rw [cloudN_cat, catT_congr (G' := cloudPart P.cloud) 16 (fun r hr => (key r hr).2.2), ← h1, short_congr (g := V.at' P.vec) (fun r hr => (key r hr).2.1), ← hv]
theorem chain_N2 {N : Nat → List Rn} (hN : ∀ r, r < 16 → form 1 (N r)) (Z : List Int) (hZ : Z = V.short (fun r => leadOf (N r))) : ∀ r, r < 16 → V.at' Z r = leadOf (N r) := by
  have hf : ∀ r, r < 16 → 0 ≤ leadOf (N r) ∧ leadOf (N r) ≤ 1000000000 := fun r hr => leadOf_bd (hN r hr)
  intro r hr
  rw [hZ]
  exact at_short hf r hr
theorem chain_N3 {N : Nat → List Rn} (Z : List Int) (hZ : Z = V.short (fun r => leadOf (N r))) (hz : ∀ r, r < 16 → V.at' Z r = leadOf (N r)) : Z = V.short (V.at' Z) := by
  rw [short_congr hz]
  exact hZ
theorem canonP_vec (N : Nat → List Rn) : (canonP N).vec = V.short (fun r => leadOf (N r)) := rfl
theorem canonP_cloud (N : Nat → List Rn) : (canonP N).cloud = cloudN N 16 := rfl
theorem chain_N1 {N : Nat → List Rn} (hN : ∀ r, r < 16 → form 1 (N r)) (Z : List Int) (hz : ∀ r, r < 16 → V.at' Z r = leadOf (N r)) (k : Nat) (hk : k ≤ 16) (L : List Sn) (hL : L = cloudN N k) : chain Z sn0 L := by
  rw [hL]
  exact (chain_cloudN hN hz k hk).1
theorem chain_of_canon {P : Pst} {G : Nat → List Rn} (h : CanonOf G P) : P.vec = V.short (V.at' P.vec) ∧ chain P.vec sn0 P.cloud := by
  obtain ⟨N, hN, e⟩ := h
  have e1 : P.vec = V.short (fun r => leadOf (N r)) := by rw [e, canonP_vec]
  have e2 : P.cloud = cloudN N 16 := by rw [e, canonP_cloud]
  have hN' : ∀ r, r < 16 → form 1 (N r) := fun r hr => (hN r hr).1
  have hz := chain_N2 hN' P.vec e1
  exact And.intro (chain_N3 P.vec e1 hz) (chain_N1 hN' P.vec hz 16 (Nat.le_refl _) P.cloud e2)
theorem canon_iff {P : Pst} : Canon P ↔ P.vec = V.short (V.at' P.vec) ∧ chain P.vec sn0 P.cloud := ⟨fun h => chain_of_canon h, fun h => canon_of_chain h.1 h.2⟩
theorem CanonOf.canon {P : Pst} {G : Nat → List Rn} (h : CanonOf G P) : Canon P := canon_iff.2 (chain_of_canon h)
end Go.Proofs.Ytiogmeaianogmaa
/- past's IsNorm: its contract. -/
namespace Go.Proofs.Ytiogmeaianogmaa
open Go.RowKit
attribute [local go_sem ↓] ldS_eq stS_eq ldP_eq stP_eq
attribute [local go_sem] zero_PC cells_PV fold_PC PC_size zero_SC build_SC cells_SV fold_SC SC_size

def InForm (P : Pst) : Prop := P.vec = V.short (V.at' P.vec) ∧ chain P.vec sn0 P.cloud
theorem chain_last {Z : List Int} : ∀ (L : List Sn) (a : Sn), chain Z a L → 0 ≤ a.hi → a.hi ≤ 1000000000 → 0 ≤ (lastS a L).hi ∧ (lastS a L).hi ≤ 1000000000
  | [], _, _, h1, h2 => ⟨h1, h2⟩
  | c :: t, _, h, _, _ => by
    have b := V.atI_bd Z c.rep
    have h1 := h.1.lead
    have h2 := h.1.ord
    have h3 := h.1.top
    exact chain_last t c h.2 (by omega) h3
theorem take_snocN (l : List Sn) (k : Nat) (h : k < l.length) : l.take (k + 1) = l.take k ++ [l.getD k sn0] := by
  rw [List.take_succ_eq_append_getElem h]; simp [List.getD, h]
theorem chain_take {Z : List Int} {a : Sn} {L : List Sn} (k : Nat) (h : chain Z a L) : chain Z a (L.take k) := by
  have e := List.take_append_drop k L
  rw [← e] at h
  exact ((chain_append Z a _ _).1 h).1
set_option maxRecDepth 100000 in
set_option maxHeartbeats 4000000 in
theorem isNormP_any (p : Pv) (w : World) (hS : PSrc w p) :
    Calls Try.prog 58 #[PV p] w fun e w' => GivB w w' e (InForm p.P) := by
  have b1 := below_new w (.cells (PC p) 25)
  obtain ⟨n0, n1⟩ := (pbox_new w p).nums
  obtain ⟨wk, hwk⟩ : ∃ wk, w.alloc (.cells (PC p) 25) = wk := ⟨_, rfl⟩
  rw [hwk] at n0 n1 b1
  have HBK := hide b1
  have HSV := hide (hS.below HBK.out).vec
  have HSC := hide (hS.below HBK.out).cloud
  have g8 := hS.cloud.big
  clear hS b1
  obtain ⟨pvo, pvn, pvc, pco, pcn, pcc, pP⟩ := p
  dsimp only at n0 n1 HSV HSC g8 ⊢
  go_enter Try.func58, Try.ntmps58
  go_wp2_with fail
  refine (V.isNorm_any pvo pvn pvc pP.vec _ HSV.out).mono ?_
  rintro e w1 ⟨rfl, b2⟩
  have HB1 := hide (HBK.out.trans (b2.mono HBK.out.size))
  have HSV1 := hide (HSV.out.below b2)
  have HSC1 := hide (HSC.out.below b2)
  have m0 := (b2.cell (World.block_lt_of_cell? _ _ n0)).trans n0
  have m1 := (b2.cell (World.block_lt_of_cell? _ _ n1)).trans n1
  clear b2 n0 n1 HSV HSC hwk HBK
  by_cases hv : pP.vec = V.short (V.at' pP.vec)
  · have HV := hide hv
    rw [decide_eq_true hv]
    clear hv
    obtain ⟨w2, hst, X2, b3, z3⟩ := madeS w1 sn0 w1.heap.size rfl
    have HX2 := hide X2
    have HB2 := hide b3
    have m2 := (b3.cell (World.block_lt_of_cell? _ _ m1)).trans m1
    clear X2 b3 z3
    go_wp2_with fail
    clear hst
    go_loopw [15] (fun i wr => ∃ j : Nat, j ≤ pcn ∧ i = .int .i64 j ∧ Hid (SBox wr w1.heap.size (lastS sn0 (pP.cloud.take j)) ∧ chain pP.vec sn0 (pP.cloud.take j) ∧ Below w1.heap.size w1 wr)) (fun i _ => pcn - (intOf i).toNat)
    case atStart => exact ⟨0, Nat.zero_le _, rfl, HX2.out, trivial, HB2.out⟩
    case round =>
      obtain ⟨j, hj, rfl, HI⟩ := hrel
      rename World => w6
      clear HX2 HB2 m2
      by_cases hlt : j < pcn
      · obtain ⟨ad, hco, A0⟩ := (HSC1.out.below HI.out.2.2).at j hlt
        subst hco
        obtain ⟨c, Hc⟩ : ∃ c, Hid (pP.cloud.getD j sn0 = c) := ⟨_, rfl⟩
        rw [Hc.out] at A0
        have HJL : Hid (j < pP.cloud.length) := by show _ < _; rw [HSC1.out.len]; exact hlt
        have HT := hide (take_snocN pP.cloud j HJL.out)
        rw [Hc.out] at HT
        obtain ⟨ah, Ha⟩ : ∃ ah, Hid (lastS sn0 (pP.cloud.take j) = ah) := ⟨_, rfl⟩
        have hah := chain_last _ _ HI.out.2.1 (by decide) (by decide)
        rw [Ha.out] at HI hah
        have hld := run_ldS A0
        obtain ⟨w7, hst, X7, b7, z7⟩ := madeS w6 c w6.heap.size rfl
        obtain ⟨x0, x1, x2⟩ := X7.at
        have l7 := run_ldS (⟨x0, x1, x2⟩ : SnAt w7 ⟨w6.heap.size, 0, none⟩ c)
        have HA7 := hide (HI.out.1.below b7)
        obtain ⟨y0, y1, y2⟩ := HA7.out.at
        have HB7 := hide (HI.out.2.2.trans (b7.mono HI.out.2.2.size))
        have v0 := (HB7.out.cell (World.block_lt_of_cell? _ _ m0)).trans m0
        have HV7 := hide (HSV1.out.below HB7.out)
        have HCH := hide HI.out.2.1
        have hs7 := run_stS (s' := c) HA7.out
        obtain ⟨z, Hz⟩ : ∃ z, Hid (V.atI pP.vec c.rep = z) := ⟨_, rfl⟩
        have hzb := V.atI_bd pP.vec c.rep
        rw [Hz.out] at hzb
        clear A0 X7 b7 z7 HI
        have HBAD : Hid (¬ StepOk pP.vec ah c → ¬ InForm pP) := fun hn h => by
          have := chain_take (j + 1) h.2
          rw [HT.out, chain_snoc, Ha.out] at this
          exact hn this.2
        have HGOOD : Hid (StepOk pP.vec ah c → chain pP.vec sn0 (pP.cloud.take (j + 1)) ∧ lastS sn0 (pP.cloud.take (j + 1)) = c) := fun h => by
          rw [HT.out, chain_snoc, Ha.out, lastS_snoc]
          exact ⟨⟨HCH.out, h⟩, rfl⟩
        have HBE := hide (HB1.out.trans (HB7.out.mono HB1.out.size))
        clear HCH HT Ha Hc HJL
        obtain ⟨rp, lo, hi⟩ := c
        obtain ⟨arp, alo, ahi⟩ := ah
        dsimp only at hld x0 x1 x2 l7 y0 y1 y2 hs7 hah Hz
        by_cases e : rp = arp
        · subst e
          by_cases hmx : z < ahi
          · obtain ⟨bR, HR⟩ : ∃ bR, Hid (V.isR rp = bR) := ⟨_, rfl⟩
            cases bR with
            | false =>
              have HNO : Hid (¬ InForm pP) := HBAD.out (fun h => by have h1 := h.isr; rw [HR.out] at h1; cases h1)
              go_wp2_with (first | (go_at_call 73; refine (V.at_any pvo pvn pvc pP.vec rp _ HV7.out).mono ?_; rintro e wz ⟨rfl, rfl⟩; rw [Hz.out]) | (go_at_call 51; refine (isRepP_any rp _).mono ?_; rintro e wz ⟨rfl, rfl⟩; rw [HR.out]))
              go_ret
              exact ⟨false, rfl, BIf.no HNO.out, HBE.out⟩
            | true =>
              by_cases k2 : lo < ahi + 2
              · have HNO : Hid (¬ InForm pP) := HBAD.out (fun h => by have h1 := h.lead; simp only [Hz.out] at h1; have h2 := h.gap rfl; simp only at h2; omega)
                go_wp2_with (first | (go_at_call 73; refine (V.at_any pvo pvn pvc pP.vec rp _ HV7.out).mono ?_; rintro e wz ⟨rfl, rfl⟩; rw [Hz.out]) | (go_at_call 51; refine (isRepP_any rp _).mono ?_; rintro e wz ⟨rfl, rfl⟩; rw [HR.out]))
                go_ret
                exact ⟨false, rfl, BIf.no HNO.out, HBE.out⟩
              by_cases k3 : hi < lo
              · have HNO : Hid (¬ InForm pP) := HBAD.out (fun h => by have h1 := h.ord; simp only at h1; omega)
                go_wp2_with (first | (go_at_call 73; refine (V.at_any pvo pvn pvc pP.vec rp _ HV7.out).mono ?_; rintro e wz ⟨rfl, rfl⟩; rw [Hz.out]) | (go_at_call 51; refine (isRepP_any rp _).mono ?_; rintro e wz ⟨rfl, rfl⟩; rw [HR.out]))
                go_ret
                exact ⟨false, rfl, BIf.no HNO.out, HBE.out⟩
              by_cases k4 : 1000000000 < hi
              · have HNO : Hid (¬ InForm pP) := HBAD.out (fun h => by have h1 := h.top; simp only at h1; omega)
                go_wp2_with (first | (go_at_call 73; refine (V.at_any pvo pvn pvc pP.vec rp _ HV7.out).mono ?_; rintro e wz ⟨rfl, rfl⟩; rw [Hz.out]) | (go_at_call 51; refine (isRepP_any rp _).mono ?_; rintro e wz ⟨rfl, rfl⟩; rw [HR.out]))
                go_ret
                exact ⟨false, rfl, BIf.no HNO.out, HBE.out⟩
              have HOK := hide (HGOOD.out ⟨HR.out, by simp only; omega, by simp only [Hz.out]; omega, fun h => by simp only; omega, by simp only; omega, by simp only; omega⟩)
              go_wp2_with (first | (go_at_call 73; refine (V.at_any pvo pvn pvc pP.vec rp _ HV7.out).mono ?_; rintro e wz ⟨rfl, rfl⟩; rw [Hz.out]) | (go_at_call 51; refine (isRepP_any rp _).mono ?_; rintro e wz ⟨rfl, rfl⟩; rw [HR.out]))
              go_roundw
              case rel => exact ⟨j + 1, by omega, by go_num, by rw [HOK.out.2]; exact setRow_heap _ _ _ _ _ _ HA7.out, HOK.out.1, below_setRow HB7.out (Nat.le_refl _)⟩
              case measure => simp [intOf]; omega
          · replace hmx : ahi ≤ z := by omega
            obtain ⟨bR, HR⟩ : ∃ bR, Hid (V.isR rp = bR) := ⟨_, rfl⟩
            cases bR with
            | false =>
              have HNO : Hid (¬ InForm pP) := HBAD.out (fun h => by have h1 := h.isr; rw [HR.out] at h1; cases h1)
              go_wp2_with (first | (go_at_call 73; refine (V.at_any pvo pvn pvc pP.vec rp _ HV7.out).mono ?_; rintro e wz ⟨rfl, rfl⟩; rw [Hz.out]) | (go_at_call 51; refine (isRepP_any rp _).mono ?_; rintro e wz ⟨rfl, rfl⟩; rw [HR.out]))
              go_ret
              exact ⟨false, rfl, BIf.no HNO.out, HBE.out⟩
            | true =>
              by_cases k2 : lo < z + 2
              · have HNO : Hid (¬ InForm pP) := HBAD.out (fun h => by have h1 := h.lead; simp only [Hz.out] at h1; have h2 := h.gap rfl; simp only at h2; omega)
                go_wp2_with (first | (go_at_call 73; refine (V.at_any pvo pvn pvc pP.vec rp _ HV7.out).mono ?_; rintro e wz ⟨rfl, rfl⟩; rw [Hz.out]) | (go_at_call 51; refine (isRepP_any rp _).mono ?_; rintro e wz ⟨rfl, rfl⟩; rw [HR.out]))
                go_ret
                exact ⟨false, rfl, BIf.no HNO.out, HBE.out⟩
              by_cases k3 : hi < lo
              · have HNO : Hid (¬ InForm pP) := HBAD.out (fun h => by have h1 := h.ord; simp only at h1; omega)
                go_wp2_with (first | (go_at_call 73; refine (V.at_any pvo pvn pvc pP.vec rp _ HV7.out).mono ?_; rintro e wz ⟨rfl, rfl⟩; rw [Hz.out]) | (go_at_call 51; refine (isRepP_any rp _).mono ?_; rintro e wz ⟨rfl, rfl⟩; rw [HR.out]))
                go_ret
                exact ⟨false, rfl, BIf.no HNO.out, HBE.out⟩
              by_cases k4 : 1000000000 < hi
              · have HNO : Hid (¬ InForm pP) := HBAD.out (fun h => by have h1 := h.top; simp only at h1; omega)
                go_wp2_with (first | (go_at_call 73; refine (V.at_any pvo pvn pvc pP.vec rp _ HV7.out).mono ?_; rintro e wz ⟨rfl, rfl⟩; rw [Hz.out]) | (go_at_call 51; refine (isRepP_any rp _).mono ?_; rintro e wz ⟨rfl, rfl⟩; rw [HR.out]))
                go_ret
                exact ⟨false, rfl, BIf.no HNO.out, HBE.out⟩
              have HOK := hide (HGOOD.out ⟨HR.out, by simp only; omega, by simp only [Hz.out]; omega, fun h => by simp only; omega, by simp only; omega, by simp only; omega⟩)
              go_wp2_with (first | (go_at_call 73; refine (V.at_any pvo pvn pvc pP.vec rp _ HV7.out).mono ?_; rintro e wz ⟨rfl, rfl⟩; rw [Hz.out]) | (go_at_call 51; refine (isRepP_any rp _).mono ?_; rintro e wz ⟨rfl, rfl⟩; rw [HR.out]))
              go_roundw
              case rel => exact ⟨j + 1, by omega, by go_num, by rw [HOK.out.2]; exact setRow_heap _ _ _ _ _ _ HA7.out, HOK.out.1, below_setRow HB7.out (Nat.le_refl _)⟩
              case measure => simp [intOf]; omega
        · have e' : (rp == arp) = false := by simp [e]
          have HE := hide e
          clear e
          obtain ⟨bR, HR⟩ : ∃ bR, Hid (V.isR rp = bR) := ⟨_, rfl⟩
          cases bR with
          | false =>
            have HNO : Hid (¬ InForm pP) := HBAD.out (fun h => by have h1 := h.isr; rw [HR.out] at h1; cases h1)
            go_wp2_with (first | (go_at_call 73; refine (V.at_any pvo pvn pvc pP.vec rp _ HV7.out).mono ?_; rintro e wz ⟨rfl, rfl⟩; rw [Hz.out]) | (go_at_call 51; refine (isRepP_any rp _).mono ?_; rintro e wz ⟨rfl, rfl⟩; rw [HR.out]))
            go_ret
            exact ⟨false, rfl, BIf.no HNO.out, HBE.out⟩
          | true =>
            by_cases k1 : rp < arp
            · have HNO : Hid (¬ InForm pP) := HBAD.out (fun h => by have h1 := h.rep; simp only at h1; omega)
              go_wp2_with (first | (go_at_call 73; refine (V.at_any pvo pvn pvc pP.vec rp _ HV7.out).mono ?_; rintro e wz ⟨rfl, rfl⟩; rw [Hz.out]) | (go_at_call 51; refine (isRepP_any rp _).mono ?_; rintro e wz ⟨rfl, rfl⟩; rw [HR.out]))
              go_ret
              exact ⟨false, rfl, BIf.no HNO.out, HBE.out⟩
            by_cases k2 : lo < z + 2
            · have HNO : Hid (¬ InForm pP) := HBAD.out (fun h => by have h1 := h.lead; simp only [Hz.out] at h1; omega)
              go_wp2_with (first | (go_at_call 73; refine (V.at_any pvo pvn pvc pP.vec rp _ HV7.out).mono ?_; rintro e wz ⟨rfl, rfl⟩; rw [Hz.out]) | (go_at_call 51; refine (isRepP_any rp _).mono ?_; rintro e wz ⟨rfl, rfl⟩; rw [HR.out]))
              go_ret
              exact ⟨false, rfl, BIf.no HNO.out, HBE.out⟩
            by_cases k3 : hi < lo
            · have HNO : Hid (¬ InForm pP) := HBAD.out (fun h => by have h1 := h.ord; simp only at h1; omega)
              go_wp2_with (first | (go_at_call 73; refine (V.at_any pvo pvn pvc pP.vec rp _ HV7.out).mono ?_; rintro e wz ⟨rfl, rfl⟩; rw [Hz.out]) | (go_at_call 51; refine (isRepP_any rp _).mono ?_; rintro e wz ⟨rfl, rfl⟩; rw [HR.out]))
              go_ret
              exact ⟨false, rfl, BIf.no HNO.out, HBE.out⟩
            by_cases k4 : 1000000000 < hi
            · have HNO : Hid (¬ InForm pP) := HBAD.out (fun h => by have h1 := h.top; simp only at h1; omega)
              go_wp2_with (first | (go_at_call 73; refine (V.at_any pvo pvn pvc pP.vec rp _ HV7.out).mono ?_; rintro e wz ⟨rfl, rfl⟩; rw [Hz.out]) | (go_at_call 51; refine (isRepP_any rp _).mono ?_; rintro e wz ⟨rfl, rfl⟩; rw [HR.out]))
              go_ret
              exact ⟨false, rfl, BIf.no HNO.out, HBE.out⟩
            have HOK := hide (HGOOD.out ⟨HR.out, by simp only; omega, by simp only [Hz.out]; omega, fun h => absurd h HE.out, by simp only; omega, by simp only; omega⟩)
            go_wp2_with (first | (go_at_call 73; refine (V.at_any pvo pvn pvc pP.vec rp _ HV7.out).mono ?_; rintro e wz ⟨rfl, rfl⟩; rw [Hz.out]) | (go_at_call 51; refine (isRepP_any rp _).mono ?_; rintro e wz ⟨rfl, rfl⟩; rw [HR.out]))
            go_roundw
            case rel => exact ⟨j + 1, by omega, by go_num, by rw [HOK.out.2]; exact setRow_heap _ _ _ _ _ _ HA7.out, HOK.out.1, below_setRow HB7.out (Nat.le_refl _)⟩
            case measure => simp [intOf]; omega
      · obtain rfl : j = pcn := by omega
        have HY : Hid (InForm pP) := by
          refine ⟨HV.out, ?_⟩
          have := HI.out.2.1
          rw [List.take_of_length_le (by rw [HSC1.out.len]; exact Nat.le_refl _)] at this
          exact this
        have HBE := hide (HB1.out.trans (HI.out.2.2.mono HB1.out.size))
        go_wp2_with fail
        go_ret
        exact ⟨true, rfl, BIf.yes HY.out, HBE.out⟩
  · have HN : Hid (¬ InForm pP) := fun h => hv h.1
    rw [decide_eq_false hv]
    clear hv
    go_wp2_with fail
    go_ret
    exact ⟨false, rfl, BIf.no HN.out, HB1.out⟩
end Go.Proofs.Ytiogmeaianogmaa
/- A call in a region that answers a past, old or new; formed: its contract. -/
namespace Go.Proofs.Ytiogmeaianogmaa
open Go.RowKit
attribute [local go_sem ↓] ldP_eq stP_eq
attribute [local go_sem] zero_PC cells_PV fold_PC PC_size fold_PC1

section
variable {n st : Nat} {wk : World} {Φ : Nat → Value → World → Prop} {late : List Nat} {RL : List (Nat × (Pst → Prop))} {AL : List (Nat × Nat × Nat)} {l : Array Bool} {W W' : World} {vs : List Value}
theorem BI.callF (hm : Mono Φ) (T : BI n st wk Φ late RL AL l W vs) (hb : Below W.heap.size W W') (i : Nat) (S : Pst → Prop) (hi : i < n) (hl : l.getD i false = false) (_ : (i, S) ∈ RL) (hu : ∀ x, x ∈ RL → x.1 = i → x.2 = S) (p : Pv) (hS : PSrc W' p) (hF : ∀ g, wk.heap.size ≤ g → g < W.heap.size → PFar p g) (hp : S p.P) (hΦ : ∀ v U, Φ i v U) (h2 : ∀ y, y ∈ AL → y.1 ≠ i ∧ y.2.1 ≠ i) (h3 : st ≠ i) : BI n st wk Φ late RL AL (l.setIfInBounds i true) W' (vs.set i (PV p)) := by
  have T' := T.on hm hb
  have hi' : i < vs.length := by rw [T.ln]; exact hi
  have hil : i < l.size := by rw [T.sz]; exact hi
  have st' : (l.setIfInBounds i true).getD st false = l.getD st false := set_other (fun e => h3 e.symm)
  refine ⟨by simpa using T.sz, by simpa using T.ln, T'.b, fun j hj hlj hlt => ?_, fun x hx hlx => ?_, fun y hy hly => ?_, fun y z hy hz hne hly hlz => ?_, fun y hy hls => ?_⟩
  · by_cases e : i = j
    · subst e; exact hΦ _ _
    · rw [vat_other e]; rw [set_other e] at hlj; rw [st'] at hlt; exact T'.h j hj hlj hlt
  · by_cases e : i = x.1
    · have e2 := hu x hx e.symm
      refine ⟨p, by rw [← e, vat_same hi'], hS, by rw [e2]; exact hp, fun y hy hly g eg => ?_⟩
      have hy1 : i ≠ y.1 := fun e => (h2 y hy).1 e.symm
      rw [set_other hy1] at hly
      rw [vat_other hy1] at eg
      obtain ⟨g', e', g1, g2, _⟩ := T.a y hy hly
      obtain rfl := ptr_inj (eg.symm.trans e')
      exact hF _ g1 g2
    · rw [set_other e] at hlx
      rw [vat_other e]
      obtain ⟨p', e', S', q', f⟩ := T'.r x hx hlx
      refine ⟨p', e', S', q', fun y hy hly => ?_⟩
      have hy1 : i ≠ y.1 := fun e => (h2 y hy).1 e.symm
      rw [set_other hy1] at hly
      rw [vat_other hy1]
      exact f y hy hly
  · have hy1 : i ≠ y.1 := fun e => (h2 y hy).1 e.symm
    have hy2 : i ≠ y.2.1 := fun e => (h2 y hy).2 e.symm
    rw [set_other hy1] at hly
    rw [vat_other hy1, set_other hy2]
    obtain ⟨g, e, g1, g2, g3, g4⟩ := T'.a y hy hly
    refine ⟨g, e, g1, g2, g3, fun hs => ?_⟩
    have hy3 : i ≠ y.2.2 := fun e => by
      have := (T.c y hy hs).2.1
      rw [← e, hl] at this
      cases this
    rw [vat_other hy3]
    exact g4 hs
  · have hy1 : i ≠ y.1 := fun e => (h2 y hy).1 e.symm
    have hz1 : i ≠ z.1 := fun e => (h2 z hz).1 e.symm
    rw [set_other hy1] at hly
    rw [set_other hz1] at hlz
    rw [vat_other hy1, vat_other hz1]
    exact T.d y z hy hz hne hly hlz
  · have hy1 : i ≠ y.1 := fun e => (h2 y hy).1 e.symm
    have hy2 : i ≠ y.2.1 := fun e => (h2 y hy).2 e.symm
    rw [set_other hy2] at hls
    have hc := T.c y hy hls
    rw [set_other hy1, st']
    refine ⟨hc.1, ?_, hc.2.2⟩
    by_cases e : i = y.2.2
    · rw [← e]; exact set_same hil
    · rw [set_other e]; exact hc.2.1
end
/-- a past is handed back, the very one or in new memory; old memory stands -/
def GivesF (w w' : World) (e : Ending) (p : Pv) (Q : Pst → Prop) : Prop := ∃ q : Pv, e = .returned (PV q) ∧ PSrc w' q ∧ (q = p ∨ PNew w.heap.size q) ∧ Below w.heap.size w w' ∧ Q q.P
set_option maxRecDepth 100000 in
theorem formed_any (a : Pv) (w : World) (hS : PSrc w a) : Calls Try.prog 46 #[PV a] w fun e w' => GivesF w w' e a (CanonOf (runsAt a.P)) := by
  have b0 := below_new w (.cells (PC a) 25)
  have b1 := below_new (w.alloc (.cells (PC a) 25)) (.cells (PC pv0) 25)
  have hp1 := pbox_new (w.alloc (.cells (PC a) 25)) pv0
  rw [World.size_alloc] at hp1
  have HXA := hide ((pbox_new w a).below b1)
  have HB1 := hide (b0.trans (b1.mono b0.size))
  have HS := hide (hS.below HB1.out)
  have HS0 := hide hS
  have HP1 := hide hp1
  clear hS b0 b1 hp1
  obtain ⟨wk, hwk⟩ : ∃ wk, (w.alloc (.cells (PC a) 25)).alloc (.cells (PC pv0) 25) = wk := ⟨_, rfl⟩
  rw [hwk] at HXA HB1 HS HP1
  have HZ : Hid (wk.heap.size = w.heap.size + 2) := by show _ = _; rw [← hwk]; simp
  have l1 := run_ldP HXA.out.at
  go_enter Try.func46, Try.ntmps46
  go_wp2_with fail
  clear hwk
  refine (isNormP_any a _ HS.out).mono ?_
  rintro e w1 ⟨b, rfl, hb, b2⟩
  have HBI := hide hb
  have HB2 := hide (HB1.out.trans (b2.mono HB1.out.size))
  have HP2 := hide (HP1.out.below b2)
  have HS2 := hide (HS.out.below b2)
  have l2 := run_ldP (HXA.out.below b2).at
  have HZ2 : Hid (w.heap.size + 2 ≤ w1.heap.size) := by have := b2.size; have h := HZ.out; show _ ≤ _; omega
  clear l1 hb b2 HXA HP1 HS HB1 HZ
  cases b with
  | true =>
    have s1 := run_stP (p' := a) HP2.out
    have HE1 : Hid (PBox (w1.setRow (w.heap.size + 1) (PC a)) (w.heap.size + 1) a) := setRow_heap _ _ _ _ _ _ HP2.out
    have HE2 : Hid (GivesF w (w1.setRow (w.heap.size + 1) (PC a)) (.returned (PV a)) a (CanonOf (runsAt a.P))) := by
      have hf := HBI.out.out.1 rfl
      exact ⟨a, rfl, HS2.out.far (PFar.old HS0.out (by omega)) (fun q hq => setRow_other _ _ _ _ hq), Or.inl rfl, below_setRow HB2.out (by omega), canon_of_chain hf.1 hf.2⟩
    go_wp2_with fail
    exact bodyPost_ret (v := PV a) (resP Try.results46 rfl HE1.out) rfl HE2.out
  | false =>
    go_wp2_with fail
    refine (pastNorm_any a _ HS2.out).mono ?_
    rintro e w2 ⟨p, rfl, S2, n2, b3, c2⟩
    obtain ⟨s1, e1, e2, e3, e4⟩ := past_end (w := w) (HP2.out.below b3) S2 (n2.mono (by have := HZ2.out; omega)) (HB2.out.trans (b3.mono HB2.out.size)) (by omega)
    have HE1 := hide e1
    have HE2 : Hid (GivesF w (w2.setRow (w.heap.size + 1) (PC p)) (.returned (PV p)) a (CanonOf (runsAt a.P))) := ⟨p, rfl, e2, Or.inr e3, e4, c2⟩
    clear S2 n2 b3 c2 e1 e2 e3 e4 l2
    go_wp2_with fail
    exact bodyPost_ret (v := PV p) (resP Try.results46 rfl HE1.out) rfl HE2.out
end Go.Proofs.Ytiogmeaianogmaa
/- Total orders, plain: lists by their first difference; spans; pasts. -/
namespace Go.Proofs.Ytiogmeaianogmaa

def lex {α : Type} (c : α → α → Int) : List α → List α → Int
  | [], [] => 0
  | [], _ :: _ => -1
  | _ :: _, [] => 1
  | x :: s, y :: t => if c x y = 0 then lex c s t else c x y
/-- a total order: -1, 0 or 1 -/
structure Tot {α : Type} (c : α → α → Int) : Prop where
  rng : ∀ x y, c x y = -1 ∨ c x y = 0 ∨ c x y = 1
  neg : ∀ x y, c y x = - c x y
  eq : ∀ x y, c x y = 0 ↔ x = y
  tr : ∀ x y z, c x y ≤ 0 → c y z ≤ 0 → c x z ≤ 0
theorem Tot.lt {α : Type} {c : α → α → Int} (h : Tot c) {x y z : α} (h1 : c x y < 0) (h2 : c y z ≤ 0) : c x z < 0 := by
  have h3 := h.tr x y z (by omega) h2
  by_cases e : c x z = 0
  · have := (h.eq x z).1 e
    subst this
    have := h.neg x y
    omega
  · omega
theorem Tot.lt' {α : Type} {c : α → α → Int} (h : Tot c) {x y z : α} (h1 : c x y ≤ 0) (h2 : c y z < 0) : c x z < 0 := by
  have h3 := h.tr x y z h1 (by omega)
  by_cases e : c x z = 0
  · have := (h.eq x z).1 e
    subst this
    have := h.neg x y
    omega
  · omega
theorem cmpI_tot : Tot cmpI := by
  refine ⟨fun x y => ?_, fun x y => ?_, fun x y => ?_, fun x y z => ?_⟩ <;> unfold cmpI
  · split
    · omega
    · split <;> omega
  · split <;> split <;> (try split) <;> omega
  · split
    · omega
    · split <;> omega
  · intro h1 h2
    split at h1
    · split at h2
      · rw [if_pos (by omega)]; omega
      · split at h2
        · omega
        · rw [if_pos (by omega)]; omega
    · split at h1
      · omega
      · split at h2
        · rw [if_pos (by omega)]; omega
        · split at h2
          · omega
          · rw [if_neg (by omega), if_neg (by omega)]; omega
theorem Tot.lex {α : Type} {c : α → α → Int} (h : Tot c) : Tot (lex c) := by
  refine ⟨?_, ?_, ?_, ?_⟩
  · intro x
    induction x with
    | nil => intro y; cases y <;> simp [Go.Proofs.Ytiogmeaianogmaa.lex]
    | cons a s ih =>
      intro y
      cases y with
      | nil => simp [Go.Proofs.Ytiogmeaianogmaa.lex]
      | cons b t =>
        simp only [Go.Proofs.Ytiogmeaianogmaa.lex]
        split
        · exact ih t
        · exact h.rng a b
  · intro x
    induction x with
    | nil => intro y; cases y <;> simp [Go.Proofs.Ytiogmeaianogmaa.lex]
    | cons a s ih =>
      intro y
      cases y with
      | nil => simp [Go.Proofs.Ytiogmeaianogmaa.lex]
      | cons b t =>
        simp only [Go.Proofs.Ytiogmeaianogmaa.lex]
        have := h.neg a b
        by_cases e : c a b = 0
        · rw [if_pos e, if_pos (by omega)]; exact ih t
        · rw [if_neg e, if_neg (by omega)]; exact this
  · intro x
    induction x with
    | nil => intro y; cases y <;> simp [Go.Proofs.Ytiogmeaianogmaa.lex]
    | cons a s ih =>
      intro y
      cases y with
      | nil => simp [Go.Proofs.Ytiogmeaianogmaa.lex]
      | cons b t =>
        simp only [Go.Proofs.Ytiogmeaianogmaa.lex]
        by_cases e : c a b = 0
        · rw [if_pos e, ih t]
          have := (h.eq a b).1 e
          subst this
          simp
        · rw [if_neg e]
          constructor
          · intro g; exact absurd g e
          · intro g
            have : a = b := by injection g
            exact absurd ((h.eq a b).2 this) e
  · intro x
    induction x with
    | nil =>
      intro y z h1 h2
      cases z with
      | nil => simp [Go.Proofs.Ytiogmeaianogmaa.lex]
      | cons d u => simp [Go.Proofs.Ytiogmeaianogmaa.lex]
    | cons a s ih =>
      intro y z h1 h2
      cases y with
      | nil => simp [Go.Proofs.Ytiogmeaianogmaa.lex] at h1
      | cons b t =>
        cases z with
        | nil => simp [Go.Proofs.Ytiogmeaianogmaa.lex] at h2
        | cons d u =>
          simp only [Go.Proofs.Ytiogmeaianogmaa.lex] at h1 h2 ⊢
          by_cases e1 : c a b = 0
          · rw [if_pos e1] at h1
            have := (h.eq a b).1 e1
            subst this
            by_cases e2 : c a d = 0
            · rw [if_pos e2] at h2 ⊢; exact ih t u h1 h2
            · rw [if_neg e2] at h2 ⊢; exact h2
          · rw [if_neg e1] at h1
            by_cases e2 : c b d = 0
            · have := (h.eq b d).1 e2
              subst this
              rw [if_neg e1]; exact h1
            · rw [if_neg e2] at h2
              have := h.lt (x := a) (y := b) (z := d) (by omega) h2
              rw [if_neg (by omega)]; omega
/-- first the one, then the other -/
def both {α β γ : Type} (f : α → β) (g : α → γ) (c1 : β → β → Int) (c2 : γ → γ → Int) (x y : α) : Int := if c1 (f x) (f y) = 0 then c2 (g x) (g y) else c1 (f x) (f y)
theorem Tot.both {α β γ : Type} {f : α → β} {g : α → γ} {c1 : β → β → Int} {c2 : γ → γ → Int} (h1 : Tot c1) (h2 : Tot c2) (hi : ∀ x y, f x = f y → g x = g y → x = y) : Tot (both f g c1 c2) := by
  refine ⟨fun x y => ?_, fun x y => ?_, fun x y => ?_, fun x y z => ?_⟩ <;> unfold Go.Proofs.Ytiogmeaianogmaa.both
  · split
    · exact h2.rng _ _
    · exact h1.rng _ _
  · have := h1.neg (f x) (f y)
    by_cases e : c1 (f x) (f y) = 0
    · rw [if_pos e, if_pos (by omega)]; exact h2.neg _ _
    · rw [if_neg e, if_neg (by omega)]; exact this
  · by_cases e : c1 (f x) (f y) = 0
    · rw [if_pos e, h2.eq]
      exact ⟨fun k => hi x y ((h1.eq _ _).1 e) k, fun k => by rw [k]⟩
    · rw [if_neg e]
      exact ⟨fun k => absurd k e, fun k => absurd ((h1.eq _ _).2 (by rw [k])) e⟩
  · intro a b
    by_cases e1 : c1 (f x) (f y) = 0
    · rw [if_pos e1] at a
      have q := (h1.eq _ _).1 e1
      rw [q]
      by_cases e2 : c1 (f y) (f z) = 0
      · rw [if_pos e2] at b ⊢; exact h2.tr _ _ _ a b
      · rw [if_neg e2] at b ⊢; exact b
    · rw [if_neg e1] at a
      by_cases e2 : c1 (f y) (f z) = 0
      · have q := (h1.eq _ _).1 e2
        rw [← q, if_neg e1]; exact a
      · rw [if_neg e2] at b
        have := h1.lt (x := f x) (y := f y) (z := f z) (by omega) b
        rw [if_neg (by omega)]; omega
theorem sn_eq {x y : Sn} (h1 : x.rep = y.rep) (h2 : x.lo = y.lo) (h3 : x.hi = y.hi) : x = y := by
  cases x; cases y; simp_all
/-- the order of spans -/
def cmp3 (x y : Sn) : Int := if cmpI x.rep y.rep = 0 then (if cmpI x.lo y.lo = 0 then cmpI x.hi y.hi else cmpI x.lo y.lo) else cmpI x.rep y.rep
theorem cmp3_tot : Tot cmp3 := by
  have h : Tot (both (fun x : Int × Int × Int => x.1) (fun x => x.2) cmpI (both (fun x : Int × Int => x.1) (fun x => x.2) cmpI cmpI)) :=
    Tot.both cmpI_tot (Tot.both cmpI_tot cmpI_tot (fun x y h1 h2 => Prod.ext h1 h2)) (fun x y h1 h2 => Prod.ext h1 h2)
  have e : ∀ x y, cmp3 x y = both (fun x : Int × Int × Int => x.1) (fun x => x.2) cmpI (both (fun x : Int × Int => x.1) (fun x => x.2) cmpI cmpI) (x.rep, x.lo, x.hi) (y.rep, y.lo, y.hi) := fun x y => rfl
  refine ⟨fun x y => ?_, fun x y => ?_, fun x y => ?_, fun x y z => ?_⟩
  · rw [e]; exact h.rng _ _
  · rw [e, e]; exact h.neg _ _
  · rw [e, h.eq]
    constructor
    · intro g
      simp only [Prod.mk.injEq] at g
      exact sn_eq g.1 g.2.1 g.2.2
    · intro g; rw [g]
  · rw [e, e, e]; exact h.tr _ _ _
/-- the order of pasts in form -/
def cmpP (P Q : Pst) : Int := if lex cmpI P.vec Q.vec = 0 then lex cmp3 P.cloud Q.cloud else lex cmpI P.vec Q.vec
theorem cmpP_tot : Tot cmpP := Tot.both (f := Pst.vec) (g := Pst.cloud) cmpI_tot.lex cmp3_tot.lex (fun x y h1 h2 => by cases x; cases y; simp_all)
/-- the first k alike -/
theorem lex_drop {α : Type} {c : α → α → Int} (hc : Tot c) (A B : List α) : ∀ k, A.take k = B.take k → k ≤ A.length → k ≤ B.length → lex c A B = lex c (A.drop k) (B.drop k)
  | 0, _, _, _ => rfl
  | k + 1, h, h1, h2 => by
    cases A with
    | nil => simp at h1
    | cons a s =>
      cases B with
      | nil => simp at h2
      | cons b t =>
        simp only [List.take_succ_cons, List.cons.injEq] at h
        obtain ⟨rfl, h⟩ := h
        have e := (hc.eq a a).2 rfl
        rw [Go.Proofs.Ytiogmeaianogmaa.lex, if_pos e]
        exact lex_drop hc s t k h (by simpa using h1) (by simpa using h2)
end Go.Proofs.Ytiogmeaianogmaa
/- cmp.Compare, cmp.Or, slices.Compare of numbers: their contracts. -/
namespace Go.Proofs.Ytiogmeaianogmaa
open Go.RowKit

theorem cmp_below (x y : Int) (w : World) : Calls Try.prog 80 #[.int .i64 x, .int .i64 y] w fun e w' => e = .returned (.int .i64 (cmpI x y)) ∧ Below w.heap.size w w' := (cmp_any x y w).mono fun _ _ h => ⟨h.1, by rw [h.2]; exact Below.refl _ _⟩
/-- the first that isn't nought -/
def orL : List Int → Int
  | [] => 0
  | a :: t => if a = 0 then orL t else a
theorem drop_getD {α : Type} (L : List α) (k : Nat) (d : α) (h : k < L.length) : L.drop k = L.getD k d :: L.drop (k + 1) := by
  rw [List.drop_eq_getElem_cons h]; simp [List.getD, h]
set_option maxHeartbeats 800000 in
theorem or_any (ao : Option Addr) (n c : Nat) (Z : List Int) (w : World) (hS : V.Src w ao n c Z) (gn : n ≤ 17592186044415) :
    Calls Try.prog 81 #[.slice ao n c] w fun e w' => e = .returned (.int .i64 (orL Z)) ∧ Below w.heap.size w w' := by
  have HS := hide hS
  have HL : Hid (Z.length = n) := hS.1
  clear hS
  go_enter Try.func81, Try.ntmps81
  go_wp2_with fail
  go_loopw [8] (fun i wr => ∃ k : Nat, k ≤ n ∧ i = .int .i64 k ∧ Hid (orL Z = orL (Z.drop k)) ∧ wr = w) (fun i _ => n - (intOf i).toNat)
  case atStart => exact ⟨0, Nat.zero_le _, rfl, rfl, rfl⟩
  case round =>
    obtain ⟨k, hk, rfl, HO, rfl⟩ := hrel
    by_cases hlt : k < n
    · obtain ⟨ad, rfl, ca⟩ := HS.out.at k hlt
      have HD := hide (drop_getD Z k 0 (by rw [HL.out]; exact hlt))
      obtain ⟨z, Hz⟩ : ∃ z, Hid (Z.getD k 0 = z) := ⟨_, rfl⟩
      rw [Hz.out] at ca HD
      by_cases h0 : z = 0
      · have h0' : (z != 0) = false := by simpa using h0
        have HN : Hid (orL Z = orL (Z.drop (k + 1))) := by show _ = _; rw [HO.out, HD.out, orL, if_pos h0]
        clear h0
        go_wp2_with fail
        go_roundw
        case rel => exact ⟨k + 1, by omega, by go_num, HN, by trivial⟩
        case measure => simp [intOf]; omega
      · have h0' : (z != 0) = true := by simpa using h0
        have HN : Hid (orL Z = z) := by show _ = _; rw [HO.out, HD.out, orL, if_neg h0]
        clear h0
        go_wp2_with fail
        go_ret
        exact ⟨ret_int HN.out.symm, Below.refl _ _⟩
    · obtain rfl : k = n := by omega
      have HN : Hid (orL Z = 0) := by show _ = _; rw [HO.out, List.drop_of_length_le (by rw [HL.out]; exact Nat.le_refl _)]; rfl
      go_wp2_with fail
      go_ret
      exact ⟨ret_int HN.out.symm, Below.refl _ _⟩
section
variable {α : Type} {c : α → α → Int} {A B : List α} {k : Nat}
theorem lex_more (hc : Tot c) (h : A.take k = B.take k) (ha : k < A.length) (hb : B.length = k) : lex c A B = 1 := by
  rw [lex_drop hc A B k h (by omega) (by omega), List.drop_of_length_le (l := B) (by omega), List.drop_eq_getElem_cons ha]
  rfl
theorem lex_less (hc : Tot c) (h : A.take k = B.take k) (ha : A.length = k) (hb : k < B.length) : lex c A B = -1 := by
  rw [lex_drop hc A B k h (by omega) (by omega), List.drop_of_length_le (l := A) (by omega), List.drop_eq_getElem_cons hb]
  rfl
theorem lex_same (hc : Tot c) (h : A.take k = B.take k) (ha : A.length = k) (hb : B.length = k) : lex c A B = 0 := by
  rw [lex_drop hc A B k h (by omega) (by omega), List.drop_of_length_le (l := A) (by omega), List.drop_of_length_le (l := B) (by omega)]
  rfl
theorem lex_diff (hc : Tot c) (d : α) (h : A.take k = B.take k) (ha : k < A.length) (hb : k < B.length) (hn : ¬ c (A.getD k d) (B.getD k d) = 0) : lex c A B = c (A.getD k d) (B.getD k d) := by
  rw [lex_drop hc A B k h (by omega) (by omega), drop_getD A k d ha, drop_getD B k d hb, lex, if_neg hn]
theorem take_on (hc : Tot c) (d : α) (h : A.take k = B.take k) (ha : k < A.length) (hb : k < B.length) (hn : c (A.getD k d) (B.getD k d) = 0) : A.take (k + 1) = B.take (k + 1) := by
  have e := (hc.eq _ _).1 hn
  rw [List.take_succ_eq_append_getElem ha, List.take_succ_eq_append_getElem hb, h]
  simp only [List.getD, List.getElem?_eq_getElem ha, List.getElem?_eq_getElem hb, Option.getD_some] at e
  rw [e]
end
set_option maxRecDepth 100000 in
set_option maxHeartbeats 1600000 in
theorem slCompare_any (ao bo : Option Addr) (n cn m cm : Nat) (A B : List Int) (w : World) (hA : V.Src w ao n cn A) (hB : V.Src w bo m cm B) (gn : n ≤ 17592186044415) (_ : m ≤ 17592186044415) :
    Calls Try.prog 47 #[.slice ao n cn, .slice bo m cm] w fun e w' => e = .returned (.int .i64 (lex cmpI A B)) ∧ Below w.heap.size w w' := by
  have HA := hide hA
  have HB := hide hB
  have HLA : Hid (A.length = n) := hA.1
  have HLB : Hid (B.length = m) := hB.1
  clear hA hB
  go_enter Try.func47, Try.ntmps47
  go_wp2_with fail
  go_loopw [11] (fun i wr => ∃ k : Nat, k ≤ n ∧ i = .int .i64 k ∧ Hid (A.take k = B.take k ∧ k ≤ m) ∧ wr = w) (fun i _ => n - (intOf i).toNat)
  case atStart => exact ⟨0, Nat.zero_le _, rfl, ⟨rfl, Nat.zero_le _⟩, rfl⟩
  case round =>
    obtain ⟨k, hk, rfl, HO, rfl⟩ := hrel
    have hkm := HO.out.2
    by_cases hlt : k < n
    · obtain ⟨ad, rfl, ca⟩ := HA.out.at k hlt
      by_cases hm : k < m
      · obtain ⟨bd, rfl, cb⟩ := HB.out.at k hm
        have HAL : Hid (k < A.length) := by rw [HLA.out]; exact hlt
        have HBL : Hid (k < B.length) := by rw [HLB.out]; exact hm
        have hm' : ¬ (m : Int) ≤ (k : Int) := by omega
        by_cases h0 : cmpI (A.getD k 0) (B.getD k 0) = 0
        · have HN := hide (take_on cmpI_tot 0 HO.out.1 HAL.out HBL.out h0)
          obtain ⟨z, hz⟩ : ∃ z, cmpI (A.getD k 0) (B.getD k 0) = z := ⟨_, rfl⟩
          have HZ := hide hz
          rw [hz] at h0
          subst h0
          clear hz
          obtain ⟨x, hx⟩ : ∃ x, A.getD k 0 = x := ⟨_, rfl⟩
          obtain ⟨y, hy⟩ : ∃ y, B.getD k 0 = y := ⟨_, rfl⟩
          rw [hx] at ca HZ
          rw [hy] at cb HZ
          clear hx hy
          go_wp2_with (go_at_call 80; refine (cmp_any x y _).mono ?_; rintro e w' ⟨rfl, rfl⟩; rw [HZ.out])
          go_roundw
          case rel => exact ⟨k + 1, by omega, by go_num, ⟨HN.out, by omega⟩, by trivial⟩
          case measure => simp [intOf]; omega
        · have HN := hide (lex_diff cmpI_tot 0 HO.out.1 HAL.out HBL.out h0)
          obtain ⟨z, hz⟩ : ∃ z, cmpI (A.getD k 0) (B.getD k 0) = z := ⟨_, rfl⟩
          have HZ := hide hz
          rw [hz] at h0 HN
          have h0' : (z != 0) = true := by simpa using h0
          clear hz h0
          obtain ⟨x, hx⟩ : ∃ x, A.getD k 0 = x := ⟨_, rfl⟩
          obtain ⟨y, hy⟩ : ∃ y, B.getD k 0 = y := ⟨_, rfl⟩
          rw [hx] at ca HZ
          rw [hy] at cb HZ
          clear hx hy
          go_wp2_with (go_at_call 80; refine (cmp_any x y _).mono ?_; rintro e w' ⟨rfl, rfl⟩; rw [HZ.out])
          go_ret
          exact ⟨ret_int HN.out.symm, Below.refl _ _⟩
      · have hm' : (m : Int) ≤ (k : Int) := by omega
        have HN := hide (lex_more cmpI_tot HO.out.1 (by rw [HLA.out]; exact hlt) (by rw [HLB.out]; omega))
        go_wp2_with fail
        go_ret
        exact ⟨ret_int HN.out.symm, Below.refl _ _⟩
    · obtain rfl : k = n := by omega
      by_cases hm : k < m
      · have hm' : (k : Int) < (m : Int) := by omega
        have HN := hide (lex_less cmpI_tot HO.out.1 HLA.out (by rw [HLB.out]; exact hm))
        go_wp2_with fail
        go_ret
        exact ⟨ret_int HN.out.symm, Below.refl _ _⟩
      · have hm' : ¬ (k : Int) < (m : Int) := by omega
        have HN := hide (lex_same cmpI_tot HO.out.1 HLA.out (by rw [HLB.out]; omega))
        go_wp2_with fail
        go_ret
        exact ⟨ret_int HN.out.symm, Below.refl _ _⟩
end Go.Proofs.Ytiogmeaianogmaa
/- compareSpans, slices.CompareFunc of spans: their contracts. -/
namespace Go.Proofs.Ytiogmeaianogmaa
open Go.RowKit
attribute [local go_sem ↓] ldS_eq stS_eq
attribute [local go_sem] zero_SC cells_SV fold_SC SC_size

theorem or3_eq (x y : Sn) : orL [cmpI x.rep y.rep, cmpI x.lo y.lo, cmpI x.hi y.hi] = cmp3 x y := by
  unfold cmp3
  simp only [orL]
  by_cases e : cmpI x.hi y.hi = 0
  · rw [if_pos e, e]
  · rw [if_neg e]
theorem or3_any (x y : Sn) (ao : Option Addr) (w : World) (hS : V.Src w ao 3 3 [cmpI x.rep y.rep, cmpI x.lo y.lo, cmpI x.hi y.hi]) :
    Calls Try.prog 81 #[.slice ao 3 3] w fun e w' => e = .returned (.int .i64 (cmp3 x y)) ∧ Below w.heap.size w w' := by
  rw [← or3_eq]
  exact or_any ao 3 3 _ w hS (by omega)
def PhC (sx sy : Sn) (w : World) (_ : World) : Nat → Value → World → Prop
  | 0, x, _ => x = .pointer (some ⟨w.heap.size, 0, none⟩)
  | 1, x, _ => x = .int .i64 sx.rep
  | 2, x, _ => x = .pointer (some ⟨w.heap.size + 1, 0, none⟩)
  | 3, x, _ => x = .int .i64 sy.rep
  | 4, x, _ => x = .int .i64 (cmpI sx.rep sy.rep)
  | 5, x, _ => x = .pointer (some ⟨w.heap.size, 1, none⟩)
  | 6, x, _ => x = .int .i64 sx.lo
  | 7, x, _ => x = .pointer (some ⟨w.heap.size + 1, 1, none⟩)
  | 8, x, _ => x = .int .i64 sy.lo
  | 9, x, _ => x = .int .i64 (cmpI sx.lo sy.lo)
  | 10, x, _ => x = .pointer (some ⟨w.heap.size, 2, none⟩)
  | 11, x, _ => x = .int .i64 sx.hi
  | 12, x, _ => x = .pointer (some ⟨w.heap.size + 1, 2, none⟩)
  | 13, x, _ => x = .int .i64 sy.hi
  | 14, x, _ => x = .int .i64 (cmpI sx.hi sy.hi)
  | 15, x, W => ∃ g, x = .slice (some ⟨g, 0, none⟩) 3 3 ∧ V.Src W (some ⟨g, 0, none⟩) 3 3 [cmpI sx.rep sy.rep, cmpI sx.lo sy.lo, cmpI sx.hi sy.hi]
  | 16, x, _ => x = .int .i64 (cmp3 sx sy)
  | 17, x, _ => x = .int .i64 (cmp3 sx sy)
  | _, _, _ => True
theorem PhC_mono (sx sy : Sn) (w : World) (W0 : World) : Mono (PhC sx sy w W0) := fun i x W W' h hb => match i with
  | 0 => h
  | 1 => h
  | 2 => h
  | 3 => h
  | 4 => h
  | 5 => h
  | 6 => h
  | 7 => h
  | 8 => h
  | 9 => h
  | 10 => h
  | 11 => h
  | 12 => h
  | 13 => h
  | 14 => h
  | 15 => by obtain ⟨g, e, R⟩ := h; exact ⟨g, e, R.below hb⟩
  | 16 => h
  | 17 => h
  | _ + 18 => trivial
set_option maxRecDepth 100000 in
set_option maxHeartbeats 4000000 in
theorem stC {sx sy : Sn} {w wk : World} (HX : Hid (SBox wk w.heap.size sx)) (HY : Hid (SBox wk (w.heap.size + 1) sy)) {Q : Exit → Act → World → Prop} :
    ∀ (l : Array Bool) (x : Act) (W : World), (∃ v1x0 v1x1 v1x2 v1x3 v1x4 v1x5 v1x6 v1x7 v1x8 v1x9 v1x10 v1x11 v1x12 v1x13 v1x14 v1x15 v1x16 v1x17, x = { tmps := #[SV sx, SV sy, ptr w.heap.size, ptr (w.heap.size + 1), v1x17, v1x0, v1x1, v1x2, v1x3, v1x4, v1x5, v1x6, v1x7, v1x8, v1x9, v1x10, v1x11, v1x12, v1x13, v1x14, v1x15, v1x16], defers := [] } ∧ BI 18 25 wk (PhC sx sy w wk) [] [] [] l W [v1x0, v1x1, v1x2, v1x3, v1x4, v1x5, v1x6, v1x7, v1x8, v1x9, v1x10, v1x11, v1x12, v1x13, v1x14, v1x15, v1x16, v1x17]) → ∀ i, i ∈ Region.ready .any #[{ dst := some 5, op := Op.fieldAddr 50 (Operand.tmp 2) 0, type := 0, pos := "sets.go:70", after := #[], guard := none }, { dst := some 6, op := Op.load 3 (Operand.tmp 5), type := 3, pos := "sets.go:70", after := #[{ on := 0, ground := Ground.data }], guard := none }, { dst := some 7, op := Op.fieldAddr 50 (Operand.tmp 3) 0, type := 0, pos := "sets.go:70", after := #[], guard := none }, { dst := some 8, op := Op.load 3 (Operand.tmp 7), type := 3, pos := "sets.go:70", after := #[{ on := 2, ground := Ground.data }], guard := none }, { dst := some 9, op := Op.call { callee := Callee.value (Operand.func 80), args := #[Operand.tmp 6, Operand.tmp 8], argTypes := #[3, 3] }, type := 3, pos := "sets.go:70", after := #[{ on := 1, ground := Ground.data }, { on := 3, ground := Ground.data }], guard := none }, { dst := some 10, op := Op.fieldAddr 50 (Operand.tmp 2) 1, type := 0, pos := "sets.go:70", after := #[], guard := none }, { dst := some 11, op := Op.load 3 (Operand.tmp 10), type := 3, pos := "sets.go:70", after := #[{ on := 5, ground := Ground.data }], guard := none }, { dst := some 12, op := Op.fieldAddr 50 (Operand.tmp 3) 1, type := 0, pos := "sets.go:70", after := #[], guard := none }, { dst := some 13, op := Op.load 3 (Operand.tmp 12), type := 3, pos := "sets.go:70", after := #[{ on := 7, ground := Ground.data }], guard := none }, { dst := some 14, op := Op.call { callee := Callee.value (Operand.func 80), args := #[Operand.tmp 11, Operand.tmp 13], argTypes := #[3, 3] }, type := 3, pos := "sets.go:70", after := #[{ on := 6, ground := Ground.data }, { on := 8, ground := Ground.data }, { on := 4, ground := Ground.chain }], guard := none }, { dst := some 15, op := Op.fieldAddr 50 (Operand.tmp 2) 2, type := 0, pos := "sets.go:70", after := #[], guard := none }, { dst := some 16, op := Op.load 3 (Operand.tmp 15), type := 3, pos := "sets.go:70", after := #[{ on := 10, ground := Ground.data }], guard := none }, { dst := some 17, op := Op.fieldAddr 50 (Operand.tmp 3) 2, type := 0, pos := "sets.go:70", after := #[], guard := none }, { dst := some 18, op := Op.load 3 (Operand.tmp 17), type := 3, pos := "sets.go:70", after := #[{ on := 12, ground := Ground.data }], guard := none }, { dst := some 19, op := Op.call { callee := Callee.value (Operand.func 80), args := #[Operand.tmp 16, Operand.tmp 18], argTypes := #[3, 3] }, type := 3, pos := "sets.go:70", after := #[{ on := 11, ground := Ground.data }, { on := 13, ground := Ground.data }, { on := 9, ground := Ground.chain }], guard := none }, { dst := some 20, op := Op.buildSlice 22 3 #[(0, Operand.tmp 9), (1, Operand.tmp 14), (2, Operand.tmp 19)], type := 22, pos := "sets.go:70", after := #[{ on := 4, ground := Ground.data }, { on := 9, ground := Ground.data }, { on := 14, ground := Ground.data }], guard := none }, { dst := some 21, op := Op.call { callee := Callee.value (Operand.func 81), args := #[Operand.tmp 20], argTypes := #[22] }, type := 3, pos := "sets.go:70", after := #[{ on := 15, ground := Ground.data }, { on := 14, ground := Ground.chain }], guard := none }, { dst := some 4, op := Op.assign (Operand.tmp 21), type := 3, pos := "sets.go:70", after := #[{ on := 16, ground := Ground.data }, { on := 16, ground := Ground.chain }, { on := 0, ground := Ground.phase }, { on := 1, ground := Ground.phase }, { on := 2, ground := Ground.phase }, { on := 3, ground := Ground.phase }, { on := 4, ground := Ground.phase }, { on := 5, ground := Ground.phase }, { on := 6, ground := Ground.phase }, { on := 7, ground := Ground.phase }, { on := 8, ground := Ground.phase }, { on := 9, ground := Ground.phase }, { on := 10, ground := Ground.phase }, { on := 11, ground := Ground.phase }, { on := 12, ground := Ground.phase }, { on := 13, ground := Ground.phase }, { on := 14, ground := Ground.phase }, { on := 15, ground := Ground.phase }, { on := 16, ground := Ground.phase }], guard := none }] l → wpOp Try.prog #[{ dst := some 5, op := Op.fieldAddr 50 (Operand.tmp 2) 0, type := 0, pos := "sets.go:70", after := #[], guard := none }, { dst := some 6, op := Op.load 3 (Operand.tmp 5), type := 3, pos := "sets.go:70", after := #[{ on := 0, ground := Ground.data }], guard := none }, { dst := some 7, op := Op.fieldAddr 50 (Operand.tmp 3) 0, type := 0, pos := "sets.go:70", after := #[], guard := none }, { dst := some 8, op := Op.load 3 (Operand.tmp 7), type := 3, pos := "sets.go:70", after := #[{ on := 2, ground := Ground.data }], guard := none }, { dst := some 9, op := Op.call { callee := Callee.value (Operand.func 80), args := #[Operand.tmp 6, Operand.tmp 8], argTypes := #[3, 3] }, type := 3, pos := "sets.go:70", after := #[{ on := 1, ground := Ground.data }, { on := 3, ground := Ground.data }], guard := none }, { dst := some 10, op := Op.fieldAddr 50 (Operand.tmp 2) 1, type := 0, pos := "sets.go:70", after := #[], guard := none }, { dst := some 11, op := Op.load 3 (Operand.tmp 10), type := 3, pos := "sets.go:70", after := #[{ on := 5, ground := Ground.data }], guard := none }, { dst := some 12, op := Op.fieldAddr 50 (Operand.tmp 3) 1, type := 0, pos := "sets.go:70", after := #[], guard := none }, { dst := some 13, op := Op.load 3 (Operand.tmp 12), type := 3, pos := "sets.go:70", after := #[{ on := 7, ground := Ground.data }], guard := none }, { dst := some 14, op := Op.call { callee := Callee.value (Operand.func 80), args := #[Operand.tmp 11, Operand.tmp 13], argTypes := #[3, 3] }, type := 3, pos := "sets.go:70", after := #[{ on := 6, ground := Ground.data }, { on := 8, ground := Ground.data }, { on := 4, ground := Ground.chain }], guard := none }, { dst := some 15, op := Op.fieldAddr 50 (Operand.tmp 2) 2, type := 0, pos := "sets.go:70", after := #[], guard := none }, { dst := some 16, op := Op.load 3 (Operand.tmp 15), type := 3, pos := "sets.go:70", after := #[{ on := 10, ground := Ground.data }], guard := none }, { dst := some 17, op := Op.fieldAddr 50 (Operand.tmp 3) 2, type := 0, pos := "sets.go:70", after := #[], guard := none }, { dst := some 18, op := Op.load 3 (Operand.tmp 17), type := 3, pos := "sets.go:70", after := #[{ on := 12, ground := Ground.data }], guard := none }, { dst := some 19, op := Op.call { callee := Callee.value (Operand.func 80), args := #[Operand.tmp 16, Operand.tmp 18], argTypes := #[3, 3] }, type := 3, pos := "sets.go:70", after := #[{ on := 11, ground := Ground.data }, { on := 13, ground := Ground.data }, { on := 9, ground := Ground.chain }], guard := none }, { dst := some 20, op := Op.buildSlice 22 3 #[(0, Operand.tmp 9), (1, Operand.tmp 14), (2, Operand.tmp 19)], type := 22, pos := "sets.go:70", after := #[{ on := 4, ground := Ground.data }, { on := 9, ground := Ground.data }, { on := 14, ground := Ground.data }], guard := none }, { dst := some 21, op := Op.call { callee := Callee.value (Operand.func 81), args := #[Operand.tmp 20], argTypes := #[22] }, type := 3, pos := "sets.go:70", after := #[{ on := 15, ground := Ground.data }, { on := 14, ground := Ground.chain }], guard := none }, { dst := some 4, op := Op.assign (Operand.tmp 21), type := 3, pos := "sets.go:70", after := #[{ on := 16, ground := Ground.data }, { on := 16, ground := Ground.chain }, { on := 0, ground := Ground.phase }, { on := 1, ground := Ground.phase }, { on := 2, ground := Ground.phase }, { on := 3, ground := Ground.phase }, { on := 4, ground := Ground.phase }, { on := 5, ground := Ground.phase }, { on := 6, ground := Ground.phase }, { on := 7, ground := Ground.phase }, { on := 8, ground := Ground.phase }, { on := 9, ground := Ground.phase }, { on := 10, ground := Ground.phase }, { on := 11, ground := Ground.phase }, { on := 12, ground := Ground.phase }, { on := 13, ground := Ground.phase }, { on := 14, ground := Ground.phase }, { on := 15, ground := Ground.phase }, { on := 16, ground := Ground.phase }], guard := none }] Q i (fun a' w' => ∃ v1x0 v1x1 v1x2 v1x3 v1x4 v1x5 v1x6 v1x7 v1x8 v1x9 v1x10 v1x11 v1x12 v1x13 v1x14 v1x15 v1x16 v1x17, a' = { tmps := #[SV sx, SV sy, ptr w.heap.size, ptr (w.heap.size + 1), v1x17, v1x0, v1x1, v1x2, v1x3, v1x4, v1x5, v1x6, v1x7, v1x8, v1x9, v1x10, v1x11, v1x12, v1x13, v1x14, v1x15, v1x16], defers := [] } ∧ BI 18 25 wk (PhC sx sy w wk) [] [] [] (l.setIfInBounds i true) w' [v1x0, v1x1, v1x2, v1x3, v1x4, v1x5, v1x6, v1x7, v1x8, v1x9, v1x10, v1x11, v1x12, v1x13, v1x14, v1x15, v1x16, v1x17]) x W := by
  rintro l x W ⟨v1x0, v1x1, v1x2, v1x3, v1x4, v1x5, v1x6, v1x7, v1x8, v1x9, v1x10, v1x11, v1x12, v1x13, v1x14, v1x15, v1x16, v1x17, rfl, T⟩ i hi
  obtain ⟨hi1, hi2, hi3⟩ := ready_mem hi
  have hi4 := no_true hi2
  have hc : i = 0 ∨ i = 1 ∨ i = 2 ∨ i = 3 ∨ i = 4 ∨ i = 5 ∨ i = 6 ∨ i = 7 ∨ i = 8 ∨ i = 9 ∨ i = 10 ∨ i = 11 ∨ i = 12 ∨ i = 13 ∨ i = 14 ∨ i = 15 ∨ i = 16 ∨ i = 17 := by have h : i < 18 := hi1; omega
  have HT := hide T
  clear T
  rcases hc with rfl | rfl | rfl | rfl | rfl | rfl | rfl | rfl | rfl | rfl | rfl | rfl | rfl | rfl | rfl | rfl | rfl | rfl
  · have HL := hide hi4
    clear hi hi1 hi2 hi3 hi4
    refine wpOp_step (o := { dst := some 5, op := Op.fieldAddr 50 (Operand.tmp 2) 0, type := 0, pos := "sets.go:70", after := #[], guard := none }) rfl (fun K hK => ?_)
    go_simp
    exact hK _ _ ⟨.pointer (some ⟨w.heap.size, 0, none⟩), v1x1, v1x2, v1x3, v1x4, v1x5, v1x6, v1x7, v1x8, v1x9, v1x10, v1x11, v1x12, v1x13, v1x14, v1x15, v1x16, v1x17, rfl, HT.out.plain (PhC_mono sx sy w wk) (Below.refl _ _) 0 (by decide) HL.out _ rfl (by simp) (by simp) (by decide)⟩
  · have d0 := hi3 _ rfl { on := 0, ground := Ground.data } (by simp) rfl
    have e0 : v1x0 = .pointer (some ⟨w.heap.size, 0, none⟩) := HT.out.h 0 (by decide) d0 (fun hm => absurd hm (by decide))
    subst e0
    have HL := hide hi4
    clear hi hi1 hi2 hi3 hi4 d0
    have c1 := (HX.out.below HT.out.b).at.1
    refine wpOp_step (o := { dst := some 6, op := Op.load 3 (Operand.tmp 5), type := 3, pos := "sets.go:70", after := #[{ on := 0, ground := Ground.data }], guard := none }) rfl (fun K hK => ?_)
    go_simp
    exact hK _ _ ⟨_, .int .i64 sx.rep, v1x2, v1x3, v1x4, v1x5, v1x6, v1x7, v1x8, v1x9, v1x10, v1x11, v1x12, v1x13, v1x14, v1x15, v1x16, v1x17, rfl, HT.out.plain (PhC_mono sx sy w wk) (Below.refl _ _) 1 (by decide) HL.out _ rfl (by simp) (by simp) (by decide)⟩
  · have HL := hide hi4
    clear hi hi1 hi2 hi3 hi4
    refine wpOp_step (o := { dst := some 7, op := Op.fieldAddr 50 (Operand.tmp 3) 0, type := 0, pos := "sets.go:70", after := #[], guard := none }) rfl (fun K hK => ?_)
    go_simp
    exact hK _ _ ⟨v1x0, v1x1, .pointer (some ⟨w.heap.size + 1, 0, none⟩), v1x3, v1x4, v1x5, v1x6, v1x7, v1x8, v1x9, v1x10, v1x11, v1x12, v1x13, v1x14, v1x15, v1x16, v1x17, rfl, HT.out.plain (PhC_mono sx sy w wk) (Below.refl _ _) 2 (by decide) HL.out _ rfl (by simp) (by simp) (by decide)⟩
  · have d2 := hi3 _ rfl { on := 2, ground := Ground.data } (by simp) rfl
    have e2 : v1x2 = .pointer (some ⟨w.heap.size + 1, 0, none⟩) := HT.out.h 2 (by decide) d2 (fun hm => absurd hm (by decide))
    subst e2
    have HL := hide hi4
    clear hi hi1 hi2 hi3 hi4 d2
    have c1 := (HY.out.below HT.out.b).at.1
    refine wpOp_step (o := { dst := some 8, op := Op.load 3 (Operand.tmp 7), type := 3, pos := "sets.go:70", after := #[{ on := 2, ground := Ground.data }], guard := none }) rfl (fun K hK => ?_)
    go_simp
    exact hK _ _ ⟨v1x0, v1x1, _, .int .i64 sy.rep, v1x4, v1x5, v1x6, v1x7, v1x8, v1x9, v1x10, v1x11, v1x12, v1x13, v1x14, v1x15, v1x16, v1x17, rfl, HT.out.plain (PhC_mono sx sy w wk) (Below.refl _ _) 3 (by decide) HL.out _ rfl (by simp) (by simp) (by decide)⟩
  · have d1 := hi3 _ rfl { on := 1, ground := Ground.data } (by simp) rfl
    have d3 := hi3 _ rfl { on := 3, ground := Ground.data } (by simp) rfl
    have e1 : v1x1 = .int .i64 sx.rep := HT.out.h 1 (by decide) d1 (fun hm => absurd hm (by decide))
    subst e1
    have e3 : v1x3 = .int .i64 sy.rep := HT.out.h 3 (by decide) d3 (fun hm => absurd hm (by decide))
    subst e3
    have HL := hide hi4
    clear hi hi1 hi2 hi3 hi4 d1 d3
    refine wpOp_step (o := { dst := some 9, op := Op.call { callee := Callee.value (Operand.func 80), args := #[Operand.tmp 6, Operand.tmp 8], argTypes := #[3, 3] }, type := 3, pos := "sets.go:70", after := #[{ on := 1, ground := Ground.data }, { on := 3, ground := Ground.data }], guard := none }) rfl (fun K hK => ?_)
    go_simp
    go_wp2_with fail
    refine (cmp_below sx.rep sy.rep _).mono ?_
    rintro e w' ⟨rfl, pb⟩
    exact hK _ _ ⟨v1x0, _, v1x2, _, .int .i64 (cmpI sx.rep sy.rep), v1x5, v1x6, v1x7, v1x8, v1x9, v1x10, v1x11, v1x12, v1x13, v1x14, v1x15, v1x16, v1x17, rfl, HT.out.plain (PhC_mono sx sy w wk) pb 4 (by decide) HL.out _ rfl (by simp) (by simp) (by decide)⟩
  · have HL := hide hi4
    clear hi hi1 hi2 hi3 hi4
    refine wpOp_step (o := { dst := some 10, op := Op.fieldAddr 50 (Operand.tmp 2) 1, type := 0, pos := "sets.go:70", after := #[], guard := none }) rfl (fun K hK => ?_)
    go_simp
    exact hK _ _ ⟨v1x0, v1x1, v1x2, v1x3, v1x4, .pointer (some ⟨w.heap.size, 1, none⟩), v1x6, v1x7, v1x8, v1x9, v1x10, v1x11, v1x12, v1x13, v1x14, v1x15, v1x16, v1x17, rfl, HT.out.plain (PhC_mono sx sy w wk) (Below.refl _ _) 5 (by decide) HL.out _ rfl (by simp) (by simp) (by decide)⟩
  · have d5 := hi3 _ rfl { on := 5, ground := Ground.data } (by simp) rfl
    have e5 : v1x5 = .pointer (some ⟨w.heap.size, 1, none⟩) := HT.out.h 5 (by decide) d5 (fun hm => absurd hm (by decide))
    subst e5
    have HL := hide hi4
    clear hi hi1 hi2 hi3 hi4 d5
    have c1 := (HX.out.below HT.out.b).at.2.1
    refine wpOp_step (o := { dst := some 11, op := Op.load 3 (Operand.tmp 10), type := 3, pos := "sets.go:70", after := #[{ on := 5, ground := Ground.data }], guard := none }) rfl (fun K hK => ?_)
    go_simp
    exact hK _ _ ⟨v1x0, v1x1, v1x2, v1x3, v1x4, _, .int .i64 sx.lo, v1x7, v1x8, v1x9, v1x10, v1x11, v1x12, v1x13, v1x14, v1x15, v1x16, v1x17, rfl, HT.out.plain (PhC_mono sx sy w wk) (Below.refl _ _) 6 (by decide) HL.out _ rfl (by simp) (by simp) (by decide)⟩
  · have HL := hide hi4
    clear hi hi1 hi2 hi3 hi4
    refine wpOp_step (o := { dst := some 12, op := Op.fieldAddr 50 (Operand.tmp 3) 1, type := 0, pos := "sets.go:70", after := #[], guard := none }) rfl (fun K hK => ?_)
    go_simp
    exact hK _ _ ⟨v1x0, v1x1, v1x2, v1x3, v1x4, v1x5, v1x6, .pointer (some ⟨w.heap.size + 1, 1, none⟩), v1x8, v1x9, v1x10, v1x11, v1x12, v1x13, v1x14, v1x15, v1x16, v1x17, rfl, HT.out.plain (PhC_mono sx sy w wk) (Below.refl _ _) 7 (by decide) HL.out _ rfl (by simp) (by simp) (by decide)⟩
  · have d7 := hi3 _ rfl { on := 7, ground := Ground.data } (by simp) rfl
    have e7 : v1x7 = .pointer (some ⟨w.heap.size + 1, 1, none⟩) := HT.out.h 7 (by decide) d7 (fun hm => absurd hm (by decide))
    subst e7
    have HL := hide hi4
    clear hi hi1 hi2 hi3 hi4 d7
    have c1 := (HY.out.below HT.out.b).at.2.1
    refine wpOp_step (o := { dst := some 13, op := Op.load 3 (Operand.tmp 12), type := 3, pos := "sets.go:70", after := #[{ on := 7, ground := Ground.data }], guard := none }) rfl (fun K hK => ?_)
    go_simp
    exact hK _ _ ⟨v1x0, v1x1, v1x2, v1x3, v1x4, v1x5, v1x6, _, .int .i64 sy.lo, v1x9, v1x10, v1x11, v1x12, v1x13, v1x14, v1x15, v1x16, v1x17, rfl, HT.out.plain (PhC_mono sx sy w wk) (Below.refl _ _) 8 (by decide) HL.out _ rfl (by simp) (by simp) (by decide)⟩
  · have d6 := hi3 _ rfl { on := 6, ground := Ground.data } (by simp) rfl
    have d8 := hi3 _ rfl { on := 8, ground := Ground.data } (by simp) rfl
    have e6 : v1x6 = .int .i64 sx.lo := HT.out.h 6 (by decide) d6 (fun hm => absurd hm (by decide))
    subst e6
    have e8 : v1x8 = .int .i64 sy.lo := HT.out.h 8 (by decide) d8 (fun hm => absurd hm (by decide))
    subst e8
    have HL := hide hi4
    clear hi hi1 hi2 hi3 hi4 d6 d8
    refine wpOp_step (o := { dst := some 14, op := Op.call { callee := Callee.value (Operand.func 80), args := #[Operand.tmp 11, Operand.tmp 13], argTypes := #[3, 3] }, type := 3, pos := "sets.go:70", after := #[{ on := 6, ground := Ground.data }, { on := 8, ground := Ground.data }, { on := 4, ground := Ground.chain }], guard := none }) rfl (fun K hK => ?_)
    go_simp
    go_wp2_with fail
    refine (cmp_below sx.lo sy.lo _).mono ?_
    rintro e w' ⟨rfl, pb⟩
    exact hK _ _ ⟨v1x0, v1x1, v1x2, v1x3, v1x4, v1x5, _, v1x7, _, .int .i64 (cmpI sx.lo sy.lo), v1x10, v1x11, v1x12, v1x13, v1x14, v1x15, v1x16, v1x17, rfl, HT.out.plain (PhC_mono sx sy w wk) pb 9 (by decide) HL.out _ rfl (by simp) (by simp) (by decide)⟩
  · have HL := hide hi4
    clear hi hi1 hi2 hi3 hi4
    refine wpOp_step (o := { dst := some 15, op := Op.fieldAddr 50 (Operand.tmp 2) 2, type := 0, pos := "sets.go:70", after := #[], guard := none }) rfl (fun K hK => ?_)
    go_simp
    exact hK _ _ ⟨v1x0, v1x1, v1x2, v1x3, v1x4, v1x5, v1x6, v1x7, v1x8, v1x9, .pointer (some ⟨w.heap.size, 2, none⟩), v1x11, v1x12, v1x13, v1x14, v1x15, v1x16, v1x17, rfl, HT.out.plain (PhC_mono sx sy w wk) (Below.refl _ _) 10 (by decide) HL.out _ rfl (by simp) (by simp) (by decide)⟩
  · have d10 := hi3 _ rfl { on := 10, ground := Ground.data } (by simp) rfl
    have e10 : v1x10 = .pointer (some ⟨w.heap.size, 2, none⟩) := HT.out.h 10 (by decide) d10 (fun hm => absurd hm (by decide))
    subst e10
    have HL := hide hi4
    clear hi hi1 hi2 hi3 hi4 d10
    have c1 := (HX.out.below HT.out.b).at.2.2
    refine wpOp_step (o := { dst := some 16, op := Op.load 3 (Operand.tmp 15), type := 3, pos := "sets.go:70", after := #[{ on := 10, ground := Ground.data }], guard := none }) rfl (fun K hK => ?_)
    go_simp
    exact hK _ _ ⟨v1x0, v1x1, v1x2, v1x3, v1x4, v1x5, v1x6, v1x7, v1x8, v1x9, _, .int .i64 sx.hi, v1x12, v1x13, v1x14, v1x15, v1x16, v1x17, rfl, HT.out.plain (PhC_mono sx sy w wk) (Below.refl _ _) 11 (by decide) HL.out _ rfl (by simp) (by simp) (by decide)⟩
  · have HL := hide hi4
    clear hi hi1 hi2 hi3 hi4
    refine wpOp_step (o := { dst := some 17, op := Op.fieldAddr 50 (Operand.tmp 3) 2, type := 0, pos := "sets.go:70", after := #[], guard := none }) rfl (fun K hK => ?_)
    go_simp
    exact hK _ _ ⟨v1x0, v1x1, v1x2, v1x3, v1x4, v1x5, v1x6, v1x7, v1x8, v1x9, v1x10, v1x11, .pointer (some ⟨w.heap.size + 1, 2, none⟩), v1x13, v1x14, v1x15, v1x16, v1x17, rfl, HT.out.plain (PhC_mono sx sy w wk) (Below.refl _ _) 12 (by decide) HL.out _ rfl (by simp) (by simp) (by decide)⟩
  · have d12 := hi3 _ rfl { on := 12, ground := Ground.data } (by simp) rfl
    have e12 : v1x12 = .pointer (some ⟨w.heap.size + 1, 2, none⟩) := HT.out.h 12 (by decide) d12 (fun hm => absurd hm (by decide))
    subst e12
    have HL := hide hi4
    clear hi hi1 hi2 hi3 hi4 d12
    have c1 := (HY.out.below HT.out.b).at.2.2
    refine wpOp_step (o := { dst := some 18, op := Op.load 3 (Operand.tmp 17), type := 3, pos := "sets.go:70", after := #[{ on := 12, ground := Ground.data }], guard := none }) rfl (fun K hK => ?_)
    go_simp
    exact hK _ _ ⟨v1x0, v1x1, v1x2, v1x3, v1x4, v1x5, v1x6, v1x7, v1x8, v1x9, v1x10, v1x11, _, .int .i64 sy.hi, v1x14, v1x15, v1x16, v1x17, rfl, HT.out.plain (PhC_mono sx sy w wk) (Below.refl _ _) 13 (by decide) HL.out _ rfl (by simp) (by simp) (by decide)⟩
  · have d11 := hi3 _ rfl { on := 11, ground := Ground.data } (by simp) rfl
    have d13 := hi3 _ rfl { on := 13, ground := Ground.data } (by simp) rfl
    have e11 : v1x11 = .int .i64 sx.hi := HT.out.h 11 (by decide) d11 (fun hm => absurd hm (by decide))
    subst e11
    have e13 : v1x13 = .int .i64 sy.hi := HT.out.h 13 (by decide) d13 (fun hm => absurd hm (by decide))
    subst e13
    have HL := hide hi4
    clear hi hi1 hi2 hi3 hi4 d11 d13
    refine wpOp_step (o := { dst := some 19, op := Op.call { callee := Callee.value (Operand.func 80), args := #[Operand.tmp 16, Operand.tmp 18], argTypes := #[3, 3] }, type := 3, pos := "sets.go:70", after := #[{ on := 11, ground := Ground.data }, { on := 13, ground := Ground.data }, { on := 9, ground := Ground.chain }], guard := none }) rfl (fun K hK => ?_)
    go_simp
    go_wp2_with fail
    refine (cmp_below sx.hi sy.hi _).mono ?_
    rintro e w' ⟨rfl, pb⟩
    exact hK _ _ ⟨v1x0, v1x1, v1x2, v1x3, v1x4, v1x5, v1x6, v1x7, v1x8, v1x9, v1x10, _, v1x12, _, .int .i64 (cmpI sx.hi sy.hi), v1x15, v1x16, v1x17, rfl, HT.out.plain (PhC_mono sx sy w wk) pb 14 (by decide) HL.out _ rfl (by simp) (by simp) (by decide)⟩
  · have d4 := hi3 _ rfl { on := 4, ground := Ground.data } (by simp) rfl
    have d9 := hi3 _ rfl { on := 9, ground := Ground.data } (by simp) rfl
    have d14 := hi3 _ rfl { on := 14, ground := Ground.data } (by simp) rfl
    have e4 : v1x4 = .int .i64 (cmpI sx.rep sy.rep) := HT.out.h 4 (by decide) d4 (fun hm => absurd hm (by decide))
    subst e4
    have e9 : v1x9 = .int .i64 (cmpI sx.lo sy.lo) := HT.out.h 9 (by decide) d9 (fun hm => absurd hm (by decide))
    subst e9
    have e14 : v1x14 = .int .i64 (cmpI sx.hi sy.hi) := HT.out.h 14 (by decide) d14 (fun hm => absurd hm (by decide))
    subst e14
    have HL := hide hi4
    clear hi hi1 hi2 hi3 hi4 d4 d9 d14
    refine wpOp_step (o := { dst := some 20, op := Op.buildSlice 22 3 #[(0, Operand.tmp 9), (1, Operand.tmp 14), (2, Operand.tmp 19)], type := 22, pos := "sets.go:70", after := #[{ on := 4, ground := Ground.data }, { on := 9, ground := Ground.data }, { on := 14, ground := Ground.data }], guard := none }) rfl (fun K hK => ?_)
    go_simp
    exact hK _ _ ⟨v1x0, v1x1, v1x2, v1x3, _, v1x5, v1x6, v1x7, v1x8, _, v1x10, v1x11, v1x12, v1x13, _, .slice (some ⟨W.heap.size, 0, none⟩) 3 3, v1x16, v1x17, rfl, HT.out.plain (PhC_mono sx sy w wk) (below_new _ _) 15 (by decide) HL.out _ ⟨_, rfl, vlit3 W _ _ _ _ rfl _⟩ (by simp) (by simp) (by decide)⟩
  · have d15 := hi3 _ rfl { on := 15, ground := Ground.data } (by simp) rfl
    obtain ⟨g15, e15, R15⟩ : ∃ g, v1x15 = .slice (some ⟨g, 0, none⟩) 3 3 ∧ V.Src W (some ⟨g, 0, none⟩) 3 3 [cmpI sx.rep sy.rep, cmpI sx.lo sy.lo, cmpI sx.hi sy.hi] := HT.out.h 15 (by decide) d15 (fun hm => absurd hm (by decide))
    subst e15
    have HR15 := hide R15
    clear R15
    have HL := hide hi4
    clear hi hi1 hi2 hi3 hi4 d15
    refine wpOp_step (o := { dst := some 21, op := Op.call { callee := Callee.value (Operand.func 81), args := #[Operand.tmp 20], argTypes := #[22] }, type := 3, pos := "sets.go:70", after := #[{ on := 15, ground := Ground.data }, { on := 14, ground := Ground.chain }], guard := none }) rfl (fun K hK => ?_)
    go_simp
    go_wp2_with fail
    refine (or3_any sx sy _ _ HR15.out).mono ?_
    rintro e w' ⟨rfl, pb⟩
    exact hK _ _ ⟨v1x0, v1x1, v1x2, v1x3, v1x4, v1x5, v1x6, v1x7, v1x8, v1x9, v1x10, v1x11, v1x12, v1x13, v1x14, _, .int .i64 (cmp3 sx sy), v1x17, rfl, HT.out.plain (PhC_mono sx sy w wk) pb 16 (by decide) HL.out _ rfl (by simp) (by simp) (by decide)⟩
  · have d16 := hi3 _ rfl { on := 16, ground := Ground.data } (by simp) rfl
    have e16 : v1x16 = .int .i64 (cmp3 sx sy) := HT.out.h 16 (by decide) d16 (fun hm => absurd hm (by decide))
    subst e16
    have HL := hide hi4
    clear hi hi1 hi2 hi3 hi4 d16
    refine wpOp_step (o := { dst := some 4, op := Op.assign (Operand.tmp 21), type := 3, pos := "sets.go:70", after := #[{ on := 16, ground := Ground.data }, { on := 16, ground := Ground.chain }, { on := 0, ground := Ground.phase }, { on := 1, ground := Ground.phase }, { on := 2, ground := Ground.phase }, { on := 3, ground := Ground.phase }, { on := 4, ground := Ground.phase }, { on := 5, ground := Ground.phase }, { on := 6, ground := Ground.phase }, { on := 7, ground := Ground.phase }, { on := 8, ground := Ground.phase }, { on := 9, ground := Ground.phase }, { on := 10, ground := Ground.phase }, { on := 11, ground := Ground.phase }, { on := 12, ground := Ground.phase }, { on := 13, ground := Ground.phase }, { on := 14, ground := Ground.phase }, { on := 15, ground := Ground.phase }, { on := 16, ground := Ground.phase }], guard := none }) rfl (fun K hK => ?_)
    go_simp
    exact hK _ _ ⟨v1x0, v1x1, v1x2, v1x3, v1x4, v1x5, v1x6, v1x7, v1x8, v1x9, v1x10, v1x11, v1x12, v1x13, v1x14, v1x15, _, .int .i64 (cmp3 sx sy), rfl, HT.out.plain (PhC_mono sx sy w wk) (Below.refl _ _) 17 (by decide) HL.out _ rfl (by simp) (by simp) (by decide)⟩
set_option maxRecDepth 100000 in
set_option maxHeartbeats 4000000 in
theorem compareSpans_any (sx sy : Sn) (w : World) : Calls Try.prog 49 #[SV sx, SV sy] w fun e w' => e = .returned (.int .i64 (cmp3 sx sy)) ∧ Below w.heap.size w w' := by
  have b1 := below_new w (.cells (SC sx) 50)
  have b2 := below_new (w.alloc (.cells (SC sx) 50)) (.cells (SC sy) 50)
  have X1 := (sbox_new w sx).below b2
  have X2 := sbox_new (w.alloc (.cells (SC sx) 50)) sy
  rw [World.size_alloc] at X2
  have HX := hide X1
  have HY := hide X2
  have HBWwk := hide (b1.trans (b2.mono b1.size))
  clear b1 b2 X1 X2
  obtain ⟨wk, hwk⟩ : ∃ wk, (w.alloc (.cells (SC sx) 50)).alloc (.cells (SC sy) 50) = wk := ⟨_, rfl⟩
  rw [hwk] at HX HY HBWwk
  go_enter Try.func49, Try.ntmps49
  go_wp2_with fail
  clear hwk
  refine wp_region_inv (by kernel_rfl) (fun l x W => ∃ v1x0 v1x1 v1x2 v1x3 v1x4 v1x5 v1x6 v1x7 v1x8 v1x9 v1x10 v1x11 v1x12 v1x13 v1x14 v1x15 v1x16 v1x17, x = { tmps := #[SV sx, SV sy, ptr w.heap.size, ptr (w.heap.size + 1), v1x17, v1x0, v1x1, v1x2, v1x3, v1x4, v1x5, v1x6, v1x7, v1x8, v1x9, v1x10, v1x11, v1x12, v1x13, v1x14, v1x15, v1x16], defers := [] } ∧ BI 18 25 wk (PhC sx sy w wk) [] [] [] l W [v1x0, v1x1, v1x2, v1x3, v1x4, v1x5, v1x6, v1x7, v1x8, v1x9, v1x10, v1x11, v1x12, v1x13, v1x14, v1x15, v1x16, v1x17]) ⟨undef, undef, undef, undef, undef, undef, undef, undef, undef, undef, undef, undef, undef, undef, undef, undef, undef, .int .i64 0, rfl, BI.start _ _ _ _ _ _ _ _ rfl⟩ ?_ ?_ ?_
  · rintro l x W ⟨v1x0, v1x1, v1x2, v1x3, v1x4, v1x5, v1x6, v1x7, v1x8, v1x9, v1x10, v1x11, v1x12, v1x13, v1x14, v1x15, v1x16, v1x17, rfl, T⟩
    exact T.sz
  · exact stC HX HY
  · rintro l x W ⟨v1x0, v1x1, v1x2, v1x3, v1x4, v1x5, v1x6, v1x7, v1x8, v1x9, v1x10, v1x11, v1x12, v1x13, v1x14, v1x15, v1x16, v1x17, rfl, T⟩ hnil
    have hall := fun i (hi : i < 18) => ready_done (by kernel_rfl) T.sz hnil i hi
    have HT := hide T
    clear T hnil
    have e0 : v1x0 = .pointer (some ⟨w.heap.size, 0, none⟩) := HT.out.h 0 (by decide) (hall 0 (by decide)) (fun hm => absurd hm (by decide))
    subst e0
    have e1 : v1x1 = .int .i64 sx.rep := HT.out.h 1 (by decide) (hall 1 (by decide)) (fun hm => absurd hm (by decide))
    subst e1
    have e2 : v1x2 = .pointer (some ⟨w.heap.size + 1, 0, none⟩) := HT.out.h 2 (by decide) (hall 2 (by decide)) (fun hm => absurd hm (by decide))
    subst e2
    have e3 : v1x3 = .int .i64 sy.rep := HT.out.h 3 (by decide) (hall 3 (by decide)) (fun hm => absurd hm (by decide))
    subst e3
    have e4 : v1x4 = .int .i64 (cmpI sx.rep sy.rep) := HT.out.h 4 (by decide) (hall 4 (by decide)) (fun hm => absurd hm (by decide))
    subst e4
    have e5 : v1x5 = .pointer (some ⟨w.heap.size, 1, none⟩) := HT.out.h 5 (by decide) (hall 5 (by decide)) (fun hm => absurd hm (by decide))
    subst e5
    have e6 : v1x6 = .int .i64 sx.lo := HT.out.h 6 (by decide) (hall 6 (by decide)) (fun hm => absurd hm (by decide))
    subst e6
    have e7 : v1x7 = .pointer (some ⟨w.heap.size + 1, 1, none⟩) := HT.out.h 7 (by decide) (hall 7 (by decide)) (fun hm => absurd hm (by decide))
    subst e7
    have e8 : v1x8 = .int .i64 sy.lo := HT.out.h 8 (by decide) (hall 8 (by decide)) (fun hm => absurd hm (by decide))
    subst e8
    have e9 : v1x9 = .int .i64 (cmpI sx.lo sy.lo) := HT.out.h 9 (by decide) (hall 9 (by decide)) (fun hm => absurd hm (by decide))
    subst e9
    have e10 : v1x10 = .pointer (some ⟨w.heap.size, 2, none⟩) := HT.out.h 10 (by decide) (hall 10 (by decide)) (fun hm => absurd hm (by decide))
    subst e10
    have e11 : v1x11 = .int .i64 sx.hi := HT.out.h 11 (by decide) (hall 11 (by decide)) (fun hm => absurd hm (by decide))
    subst e11
    have e12 : v1x12 = .pointer (some ⟨w.heap.size + 1, 2, none⟩) := HT.out.h 12 (by decide) (hall 12 (by decide)) (fun hm => absurd hm (by decide))
    subst e12
    have e13 : v1x13 = .int .i64 sy.hi := HT.out.h 13 (by decide) (hall 13 (by decide)) (fun hm => absurd hm (by decide))
    subst e13
    have e14 : v1x14 = .int .i64 (cmpI sx.hi sy.hi) := HT.out.h 14 (by decide) (hall 14 (by decide)) (fun hm => absurd hm (by decide))
    subst e14
    have e16 : v1x16 = .int .i64 (cmp3 sx sy) := HT.out.h 16 (by decide) (hall 16 (by decide)) (fun hm => absurd hm (by decide))
    subst e16
    have e17 : v1x17 = .int .i64 (cmp3 sx sy) := HT.out.h 17 (by decide) (hall 17 (by decide)) (fun hm => absurd hm (by decide))
    subst e17
    have by1 := HT.out.b
    rename World => y1
    clear hall HT l
    replace HX := hide (HX.out.below by1)
    replace HY := hide (HY.out.below by1)
    have HBWy1 := hide (HBWwk.out.trans (by1.mono HBWwk.out.size))
    clear by1
    go_wp2_with fail
    go_ret
    exact ⟨rfl, HBWy1.out⟩
set_option maxRecDepth 100000 in
set_option maxHeartbeats 4000000 in
theorem slCompareS_any (ao bo : Option Addr) (n cn m cm : Nat) (A B : List Sn) (w : World) (hA : SSrc w ao n cn A) (hB : SSrc w bo m cm B) :
    Calls Try.prog 48 #[.slice ao n cn, .slice bo m cm, .func (.func 49) #[] #[]] w fun e w' => e = .returned (.int .i64 (lex cmp3 A B)) ∧ Below w.heap.size w w' := by
  have HA := hide hA
  have HB := hide hB
  have HLA := hide hA.len
  have HLB := hide hB.len
  have gn := hA.big
  have gm := hB.big
  clear hA hB
  go_enter Try.func48, Try.ntmps48
  go_wp2_with fail
  go_loopw [13] (fun i wr => ∃ k : Nat, k ≤ n ∧ i = .int .i64 k ∧ Hid ((A.take k = B.take k ∧ k ≤ m) ∧ Below w.heap.size w wr)) (fun i _ => n - (intOf i).toNat)
  case atStart => exact ⟨0, Nat.zero_le _, rfl, ⟨rfl, Nat.zero_le _⟩, Below.refl _ _⟩
  case round =>
    obtain ⟨k, hk, rfl, HO⟩ := hrel
    rename World => w6
    have hkm := HO.out.1.2
    by_cases hlt : k < n
    · obtain ⟨ad, hao, ca⟩ := (HA.out.below HO.out.2).at k hlt
      subst hao
      obtain ⟨x, Hx⟩ : ∃ x, Hid (A.getD k sn0 = x) := ⟨_, rfl⟩
      rw [Hx.out] at ca
      have l1 := run_ldS ca
      obtain ⟨w7, hst, X7, b7, z7⟩ := madeS w6 x w6.heap.size rfl
      have HX7 := hide X7
      have HB7 := hide (HO.out.2.trans (b7.mono HO.out.2.size))
      clear X7 ca
      by_cases hm : k < m
      · obtain ⟨bd, hbo, cb⟩ := ((HB.out.below HO.out.2).below b7).at k hm
        subst hbo
        obtain ⟨y, Hy⟩ : ∃ y, Hid (B.getD k sn0 = y) := ⟨_, rfl⟩
        rw [Hy.out] at cb
        have l2 := run_ldS cb
        obtain ⟨w8, hst8, X8, b8, z8⟩ := madeS w7 y w7.heap.size rfl
        have HX8 := hide X8
        have HX78 := hide (HX7.out.below b8)
        obtain ⟨x0, x1, x2⟩ := HX78.out.at
        obtain ⟨y0, y1, y2⟩ := X8.at
        have l3 := run_ldS (⟨x0, x1, x2⟩ : SnAt w8 ⟨w6.heap.size, 0, none⟩ x)
        have l4 := run_ldS (⟨y0, y1, y2⟩ : SnAt w8 ⟨w7.heap.size, 0, none⟩ y)
        have HB8 := hide (HB7.out.trans (b8.mono HB7.out.size))
        have HAL : Hid (k < A.length) := by rw [HLA.out]; exact hlt
        have HBL : Hid (k < B.length) := by rw [HLB.out]; exact hm
        have hm' : ¬ (m : Int) ≤ (k : Int) := by omega
        clear X8 cb b7 b8 z7 z8 x0 x1 x2 y0 y1 y2
        have HTO : Hid (cmp3 x y = 0 → A.take (k + 1) = B.take (k + 1)) := fun h => take_on cmp3_tot sn0 HO.out.1.1 HAL.out HBL.out (by rw [Hx.out, Hy.out]; exact h)
        have HDF : Hid (¬ cmp3 x y = 0 → lex cmp3 A B = cmp3 x y) := fun h => by
          have := lex_diff cmp3_tot sn0 HO.out.1.1 HAL.out HBL.out (by rw [Hx.out, Hy.out]; exact h)
          rw [Hx.out, Hy.out] at this
          exact this
        go_wp2_with fail
        refine (compareSpans_any x y _).mono ?_
        rintro e w9 ⟨rfl, b9⟩
        have HB9 := hide (HB8.out.trans (b9.mono HB8.out.size))
        clear b9 l1 l2 l3 l4 hst hst8
        by_cases h0 : cmp3 x y = 0
        · have HN := hide (HTO.out h0)
          rw [h0]
          clear h0
          go_wp2_with fail
          go_roundw
          case rel => exact ⟨k + 1, by omega, by go_num, ⟨HN.out, by omega⟩, HB9.out⟩
          case measure => simp [intOf]; omega
        · have HN := hide (HDF.out h0)
          have h0' : (cmp3 x y != 0) = true := by simpa using h0
          clear h0
          obtain ⟨z, hz⟩ : ∃ z, cmp3 x y = z := ⟨_, rfl⟩
          rw [hz] at h0' HN ⊢
          clear hz
          go_wp2_with fail
          go_ret
          exact ⟨ret_int HN.out.symm, HB9.out⟩
      · have hm' : (m : Int) ≤ (k : Int) := by omega
        have HN := hide (lex_more cmp3_tot HO.out.1.1 (by rw [HLA.out]; exact hlt) (by rw [HLB.out]; omega))
        clear b7 z7
        go_wp2_with fail
        go_ret
        exact ⟨ret_int HN.out.symm, HB7.out⟩
    · obtain rfl : k = n := by omega
      by_cases hm : k < m
      · have hm' : (k : Int) < (m : Int) := by omega
        have HN := hide (lex_less cmp3_tot HO.out.1.1 HLA.out (by rw [HLB.out]; exact hm))
        go_wp2_with fail
        go_ret
        exact ⟨ret_int HN.out.symm, HO.out.2⟩
      · have hm' : ¬ (k : Int) < (m : Int) := by omega
        have HN := hide (lex_same cmp3_tot HO.out.1.1 HLA.out (by rw [HLB.out]; omega))
        go_wp2_with fail
        go_ret
        exact ⟨ret_int HN.out.symm, HO.out.2⟩
end Go.Proofs.Ytiogmeaianogmaa
/- past's Compare: its contract. -/
namespace Go.Proofs.Ytiogmeaianogmaa
open Go.RowKit
attribute [local go_sem ↓] ldP_eq stP_eq
attribute [local go_sem] zero_PC cells_PV fold_PC PC_size fold_PC1

/-- a number is handed back; old memory stands -/
def GivesK (w w' : World) (e : Ending) (P : Int → Prop) : Prop := ∃ k, e = .returned (.int .i64 k) ∧ P k ∧ Below w.heap.size w w'
theorem canon_ex (G : Nat → List Rn) : ∃ P, CanonOf G P := by
  have h : ∀ r, ∃ Y, NormOf (G r) Y := fun r => norm_ex _
  exact ⟨_, fun r => Classical.choose (h r), fun r _ => Classical.choose_spec (h r), rfl⟩
/-- how the sets of the two stand in the order of pasts -/
def CmpOf (P Q : Pst) (z : Int) : Prop := ∃ X Y, CanonOf (runsAt P) X ∧ CanonOf (runsAt Q) Y ∧ z = cmpP X Y
theorem CmpOf.unique {P Q : Pst} {z z' : Int} (h : CmpOf P Q z) (h' : CmpOf P Q z') : z = z' := by
  obtain ⟨X, Y, hX, hY, rfl⟩ := h
  obtain ⟨X', Y', hX', hY', rfl⟩ := h'
  rw [hX.unique hX' (fun _ _ _ => Iff.rfl), hY.unique hY' (fun _ _ _ => Iff.rfl)]
def PhE (a b : Pv) (_ : World) (_ : World) : Nat → Value → World → Prop
  | 0, x, _ => x = PV a
  | 2, x, _ => x = PV b
  | _, _, _ => True
theorem PhE_mono (a b : Pv) (w : World) (W0 : World) : Mono (PhE a b w W0) := fun i _ _ _ h _ => match i with
  | 0 => h
  | 2 => h
  | 1 => trivial
  | 3 => trivial
  | 4 => trivial
  | 5 => trivial
  | 6 => trivial
  | 7 => trivial
  | _ + 8 => trivial
theorem PhE_inv (a b : Pv) (w : World) (W0 : World) : ∀ j x U U', j ∉ [] → PhE a b w W0 j x U → PhE a b w W0 j x U' := fun j _ _ _ _ h => match j with
  | 0 => h
  | 2 => h
  | 1 => trivial
  | 3 => trivial
  | 4 => trivial
  | 5 => trivial
  | 6 => trivial
  | 7 => trivial
  | _ + 8 => trivial
set_option maxRecDepth 100000 in
set_option maxHeartbeats 4000000 in
theorem stE {a b : Pv} {w wk : World} (HXA : Hid (PBox wk w.heap.size a)) (HXB : Hid (PBox wk (w.heap.size + 1) b)) (HA : Hid (PSrc wk a)) (HB : Hid (PSrc wk b)) {Q : Exit → Act → World → Prop} :
    ∀ (l : Array Bool) (x : Act) (W : World), (∃ v1x0 v1x1 v1x2 v1x3 v1x4 v1x5, x = { tmps := #[PV a, PV b, ptr w.heap.size, ptr (w.heap.size + 1), .int .i64 0, v1x4, v1x5, undef, v1x0, v1x1, v1x2, v1x3, undef, undef, undef, undef, undef, undef, undef, undef, undef, undef, undef, undef, undef], defers := [] } ∧ BI 8 6 wk (PhE a b w wk) [] [(1, CanonOf (runsAt a.P)), (3, CanonOf (runsAt b.P))] [(4, 6, 1), (5, 7, 3)] l W [v1x0, v1x1, v1x2, v1x3, v1x4, v1x5, undef, undef]) → ∀ i, i ∈ Region.ready .any #[{ dst := some 8, op := Op.load 25 (Operand.tmp 2), type := 25, pos := "sets.go:53", after := #[], guard := none }, { dst := some 9, op := Op.call { callee := Callee.value (Operand.func 46), args := #[Operand.tmp 8], argTypes := #[25] }, type := 25, pos := "sets.go:53", after := #[{ on := 0, ground := Ground.data }], guard := none }, { dst := some 10, op := Op.load 25 (Operand.tmp 3), type := 25, pos := "sets.go:53", after := #[], guard := none }, { dst := some 11, op := Op.call { callee := Callee.value (Operand.func 46), args := #[Operand.tmp 10], argTypes := #[25] }, type := 25, pos := "sets.go:53", after := #[{ on := 2, ground := Ground.data }, { on := 1, ground := Ground.chain }], guard := none }, { dst := some 5, op := Op.alloc 25, type := 0, pos := "sets.go:53", after := #[], guard := none }, { dst := some 6, op := Op.alloc 25, type := 0, pos := "sets.go:53", after := #[], guard := none }, { dst := none, op := Op.store 25 (Operand.tmp 5) (Operand.tmp 9), type := 0, pos := "sets.go:53", after := #[{ on := 4, ground := Ground.data }, { on := 1, ground := Ground.data }, { on := 3, ground := Ground.chain }, { on := 0, ground := Ground.phase }, { on := 1, ground := Ground.phase }, { on := 2, ground := Ground.textOnly Departure.lateStores }, { on := 3, ground := Ground.textOnly Departure.lateStoresUnsure }, { on := 4, ground := Ground.phase }, { on := 5, ground := Ground.phase }], guard := none }, { dst := none, op := Op.store 25 (Operand.tmp 6) (Operand.tmp 11), type := 0, pos := "sets.go:53", after := #[{ on := 5, ground := Ground.data }, { on := 3, ground := Ground.data }, { on := 6, ground := Ground.chain }, { on := 0, ground := Ground.phase }, { on := 1, ground := Ground.phase }, { on := 2, ground := Ground.phase }, { on := 3, ground := Ground.phase }, { on := 4, ground := Ground.phase }, { on := 5, ground := Ground.phase }, { on := 6, ground := Ground.phase }], guard := none }] l → wpOp Try.prog #[{ dst := some 8, op := Op.load 25 (Operand.tmp 2), type := 25, pos := "sets.go:53", after := #[], guard := none }, { dst := some 9, op := Op.call { callee := Callee.value (Operand.func 46), args := #[Operand.tmp 8], argTypes := #[25] }, type := 25, pos := "sets.go:53", after := #[{ on := 0, ground := Ground.data }], guard := none }, { dst := some 10, op := Op.load 25 (Operand.tmp 3), type := 25, pos := "sets.go:53", after := #[], guard := none }, { dst := some 11, op := Op.call { callee := Callee.value (Operand.func 46), args := #[Operand.tmp 10], argTypes := #[25] }, type := 25, pos := "sets.go:53", after := #[{ on := 2, ground := Ground.data }, { on := 1, ground := Ground.chain }], guard := none }, { dst := some 5, op := Op.alloc 25, type := 0, pos := "sets.go:53", after := #[], guard := none }, { dst := some 6, op := Op.alloc 25, type := 0, pos := "sets.go:53", after := #[], guard := none }, { dst := none, op := Op.store 25 (Operand.tmp 5) (Operand.tmp 9), type := 0, pos := "sets.go:53", after := #[{ on := 4, ground := Ground.data }, { on := 1, ground := Ground.data }, { on := 3, ground := Ground.chain }, { on := 0, ground := Ground.phase }, { on := 1, ground := Ground.phase }, { on := 2, ground := Ground.textOnly Departure.lateStores }, { on := 3, ground := Ground.textOnly Departure.lateStoresUnsure }, { on := 4, ground := Ground.phase }, { on := 5, ground := Ground.phase }], guard := none }, { dst := none, op := Op.store 25 (Operand.tmp 6) (Operand.tmp 11), type := 0, pos := "sets.go:53", after := #[{ on := 5, ground := Ground.data }, { on := 3, ground := Ground.data }, { on := 6, ground := Ground.chain }, { on := 0, ground := Ground.phase }, { on := 1, ground := Ground.phase }, { on := 2, ground := Ground.phase }, { on := 3, ground := Ground.phase }, { on := 4, ground := Ground.phase }, { on := 5, ground := Ground.phase }, { on := 6, ground := Ground.phase }], guard := none }] Q i (fun a' w' => ∃ v1x0 v1x1 v1x2 v1x3 v1x4 v1x5, a' = { tmps := #[PV a, PV b, ptr w.heap.size, ptr (w.heap.size + 1), .int .i64 0, v1x4, v1x5, undef, v1x0, v1x1, v1x2, v1x3, undef, undef, undef, undef, undef, undef, undef, undef, undef, undef, undef, undef, undef], defers := [] } ∧ BI 8 6 wk (PhE a b w wk) [] [(1, CanonOf (runsAt a.P)), (3, CanonOf (runsAt b.P))] [(4, 6, 1), (5, 7, 3)] (l.setIfInBounds i true) w' [v1x0, v1x1, v1x2, v1x3, v1x4, v1x5, undef, undef]) x W := by
  rintro l x W ⟨v1x0, v1x1, v1x2, v1x3, v1x4, v1x5, rfl, T⟩ i hi
  obtain ⟨hi1, hi2, hi3⟩ := ready_mem hi
  have hi4 := no_true hi2
  have hc : i = 0 ∨ i = 1 ∨ i = 2 ∨ i = 3 ∨ i = 4 ∨ i = 5 ∨ i = 6 ∨ i = 7 := by have h : i < 8 := hi1; omega
  have HT := hide T
  clear T
  rcases hc with rfl | rfl | rfl | rfl | rfl | rfl | rfl | rfl
  · have HL := hide hi4
    clear hi hi1 hi2 hi3 hi4
    have l1 := run_ldP (HXA.out.below HT.out.b).at
    refine wpOp_step (o := { dst := some 8, op := Op.load 25 (Operand.tmp 2), type := 25, pos := "sets.go:53", after := #[], guard := none }) rfl (fun K hK => ?_)
    go_simp
    exact hK _ _ ⟨PV a, v1x1, v1x2, v1x3, v1x4, v1x5, rfl, HT.out.plain (PhE_mono a b w wk) (Below.refl _ _) 0 (by decide) HL.out _ rfl (by simp) (by simp) (by decide)⟩
  · have d0 := hi3 _ rfl { on := 0, ground := Ground.data } (by simp) rfl
    have e0 : v1x0 = PV a := HT.out.h 0 (by decide) d0 (fun hm => absurd hm (by decide))
    subst e0
    have HL := hide hi4
    clear hi hi1 hi2 hi3 hi4 d0
    refine wpOp_step (o := { dst := some 9, op := Op.call { callee := Callee.value (Operand.func 46), args := #[Operand.tmp 8], argTypes := #[25] }, type := 25, pos := "sets.go:53", after := #[{ on := 0, ground := Ground.data }], guard := none }) rfl (fun K hK => ?_)
    go_simp
    go_wp2_with fail
    refine (formed_any a _ (HA.out.below HT.out.b)).mono ?_
    rintro e w' ⟨pp, rfl, pS, pN, pb, pq⟩
    exact hK _ _ ⟨_, PV pp, v1x2, v1x3, v1x4, v1x5, rfl, HT.out.callF (PhE_mono a b w wk) pb 1 (CanonOf (runsAt a.P)) (by decide) HL.out (by simp) (by simp) pp pS (fun g h1 h2 => pN.elim (fun e => by rw [e]; exact PFar.old HA.out h1) (fun h => PFar.new h h2)) (pq) (fun _ _ => trivial) (by simp) (by decide)⟩
  · have HL := hide hi4
    clear hi hi1 hi2 hi3 hi4
    have l1 := run_ldP (HXB.out.below HT.out.b).at
    refine wpOp_step (o := { dst := some 10, op := Op.load 25 (Operand.tmp 3), type := 25, pos := "sets.go:53", after := #[], guard := none }) rfl (fun K hK => ?_)
    go_simp
    exact hK _ _ ⟨v1x0, v1x1, PV b, v1x3, v1x4, v1x5, rfl, HT.out.plain (PhE_mono a b w wk) (Below.refl _ _) 2 (by decide) HL.out _ rfl (by simp) (by simp) (by decide)⟩
  · have d2 := hi3 _ rfl { on := 2, ground := Ground.data } (by simp) rfl
    have e2 : v1x2 = PV b := HT.out.h 2 (by decide) d2 (fun hm => absurd hm (by decide))
    subst e2
    have HL := hide hi4
    clear hi hi1 hi2 hi3 hi4 d2
    refine wpOp_step (o := { dst := some 11, op := Op.call { callee := Callee.value (Operand.func 46), args := #[Operand.tmp 10], argTypes := #[25] }, type := 25, pos := "sets.go:53", after := #[{ on := 2, ground := Ground.data }, { on := 1, ground := Ground.chain }], guard := none }) rfl (fun K hK => ?_)
    go_simp
    go_wp2_with fail
    refine (formed_any b _ (HB.out.below HT.out.b)).mono ?_
    rintro e w' ⟨pp, rfl, pS, pN, pb, pq⟩
    exact hK _ _ ⟨v1x0, v1x1, _, PV pp, v1x4, v1x5, rfl, HT.out.callF (PhE_mono a b w wk) pb 3 (CanonOf (runsAt b.P)) (by decide) HL.out (by simp) (by simp) pp pS (fun g h1 h2 => pN.elim (fun e => by rw [e]; exact PFar.old HB.out h1) (fun h => PFar.new h h2)) (pq) (fun _ _ => trivial) (by simp) (by decide)⟩
  · have HL := hide hi4
    clear hi hi1 hi2 hi3 hi4
    refine wpOp_step (o := { dst := some 5, op := Op.alloc 25, type := 0, pos := "sets.go:53", after := #[], guard := none }) rfl (fun K hK => ?_)
    go_simp
    exact hK _ _ ⟨v1x0, v1x1, v1x2, v1x3, ptr W.heap.size, v1x5, rfl, HT.out.make (PhE_mono a b w wk) 4 6 1 (by decide) HL.out (by simp) (by simp) (by simp) (by simp) (fun _ _ => trivial) (by decide)⟩
  · have HL := hide hi4
    clear hi hi1 hi2 hi3 hi4
    refine wpOp_step (o := { dst := some 6, op := Op.alloc 25, type := 0, pos := "sets.go:53", after := #[], guard := none }) rfl (fun K hK => ?_)
    go_simp
    exact hK _ _ ⟨v1x0, v1x1, v1x2, v1x3, v1x4, ptr W.heap.size, rfl, HT.out.make (PhE_mono a b w wk) 5 7 3 (by decide) HL.out (by simp) (by simp) (by simp) (by simp) (fun _ _ => trivial) (by decide)⟩
  · have da := hi3 _ rfl { on := 4, ground := Ground.data } (by simp) rfl
    have dc := hi3 _ rfl { on := 1, ground := Ground.data } (by simp) rfl
    obtain ⟨pc, ec, -, -, -⟩ := HT.out.r (1, CanonOf (runsAt a.P)) (by simp) dc
    obtain ⟨g, eg, PB, T2⟩ := HT.out.fill 4 6 1 pc (by decide) hi4 (by simp) (by simp) (by simp) da dc (Or.inl rfl) ec (by simp) (by simp) (PhE_inv a b w wk) (fun _ _ => trivial) undef
    have fg : v1x4 = ptr g := eg
    have fc : v1x1 = PV pc := ec
    subst fg fc
    have s1 := run_stP (p' := pc) PB
    have HT2 := hide T2
    clear T2 PB eg ec da dc HT hi hi1 hi2 hi3 hi4
    refine wpOp_step (o := { dst := none, op := Op.store 25 (Operand.tmp 5) (Operand.tmp 9), type := 0, pos := "sets.go:53", after := #[{ on := 4, ground := Ground.data }, { on := 1, ground := Ground.data }, { on := 3, ground := Ground.chain }, { on := 0, ground := Ground.phase }, { on := 1, ground := Ground.phase }, { on := 2, ground := Ground.textOnly Departure.lateStores }, { on := 3, ground := Ground.textOnly Departure.lateStoresUnsure }, { on := 4, ground := Ground.phase }, { on := 5, ground := Ground.phase }], guard := none }) rfl (fun K hK => ?_)
    go_simp
    exact hK _ _ ⟨v1x0, _, v1x2, v1x3, _, v1x5, rfl, HT2.out⟩
  · have da := hi3 _ rfl { on := 5, ground := Ground.data } (by simp) rfl
    have dc := hi3 _ rfl { on := 3, ground := Ground.data } (by simp) rfl
    have dt := hi3 _ rfl { on := 6, ground := Ground.chain } (by simp) rfl
    obtain ⟨pc, ec, -, -, -⟩ := HT.out.r (3, CanonOf (runsAt b.P)) (by simp) dc
    obtain ⟨g, eg, PB, T2⟩ := HT.out.fill 5 7 3 pc (by decide) hi4 (by simp) (by simp) (by simp) da dc (Or.inr dt) ec (by simp) (by simp) (PhE_inv a b w wk) (fun _ _ => trivial) undef
    have fg : v1x5 = ptr g := eg
    have fc : v1x3 = PV pc := ec
    subst fg fc
    have s1 := run_stP (p' := pc) PB
    have HT2 := hide T2
    clear T2 PB eg ec da dc dt HT hi hi1 hi2 hi3 hi4
    refine wpOp_step (o := { dst := none, op := Op.store 25 (Operand.tmp 6) (Operand.tmp 11), type := 0, pos := "sets.go:53", after := #[{ on := 5, ground := Ground.data }, { on := 3, ground := Ground.data }, { on := 6, ground := Ground.chain }, { on := 0, ground := Ground.phase }, { on := 1, ground := Ground.phase }, { on := 2, ground := Ground.phase }, { on := 3, ground := Ground.phase }, { on := 4, ground := Ground.phase }, { on := 5, ground := Ground.phase }, { on := 6, ground := Ground.phase }], guard := none }) rfl (fun K hK => ?_)
    go_simp
    exact hK _ _ ⟨v1x0, v1x1, v1x2, _, v1x4, _, rfl, HT2.out⟩
set_option maxRecDepth 100000 in
set_option maxHeartbeats 4000000 in
theorem pastCompare_any (a b : Pv) (w : World) (hA : PSrc w a) (hB : PSrc w b) : Calls Try.prog 19 #[PV a, PV b] w fun e w' => GivesK w w' e (CmpOf a.P b.P) := by
  have b1 := below_new w (.cells (PC a) 25)
  have b2 := below_new (w.alloc (.cells (PC a) 25)) (.cells (PC b) 25)
  have p2 := pbox_new (w.alloc (.cells (PC a) 25)) b
  rw [World.size_alloc] at p2
  have HXA := hide ((pbox_new w a).below b2)
  have HXB := hide p2
  have HBWwk := hide (b1.trans (b2.mono b1.size))
  have HA := hide (hA.below HBWwk.out)
  have HB := hide (hB.below HBWwk.out)
  clear b1 b2 p2 hA hB
  obtain ⟨wk, hwk⟩ : ∃ wk, (w.alloc (.cells (PC a) 25)).alloc (.cells (PC b) 25) = wk := ⟨_, rfl⟩
  rw [hwk] at HXA HXB HBWwk HA HB
  go_enter Try.func19, Try.ntmps19
  go_wp2_with fail
  clear hwk
  refine wp_region_inv (by kernel_rfl) (fun l x W => ∃ v1x0 v1x1 v1x2 v1x3 v1x4 v1x5, x = { tmps := #[PV a, PV b, ptr w.heap.size, ptr (w.heap.size + 1), .int .i64 0, v1x4, v1x5, undef, v1x0, v1x1, v1x2, v1x3, undef, undef, undef, undef, undef, undef, undef, undef, undef, undef, undef, undef, undef], defers := [] } ∧ BI 8 6 wk (PhE a b w wk) [] [(1, CanonOf (runsAt a.P)), (3, CanonOf (runsAt b.P))] [(4, 6, 1), (5, 7, 3)] l W [v1x0, v1x1, v1x2, v1x3, v1x4, v1x5, undef, undef]) ⟨undef, undef, undef, undef, undef, undef, rfl, BI.start _ _ _ _ _ _ _ _ rfl⟩ ?_ ?_ ?_
  · rintro l x W ⟨v1x0, v1x1, v1x2, v1x3, v1x4, v1x5, rfl, T⟩
    exact T.sz
  · exact stE HXA HXB HA HB
  · rintro l x W ⟨v1x0, v1x1, v1x2, v1x3, v1x4, v1x5, rfl, T⟩ hnil
    have hall := fun i (hi : i < 8) => ready_done (by kernel_rfl) T.sz hnil i hi
    have HT := hide T
    clear T hnil
    have e0 : v1x0 = PV a := HT.out.h 0 (by decide) (hall 0 (by decide)) (fun hm => absurd hm (by decide))
    subst e0
    obtain ⟨qa, e1, Sqa, qqa, -⟩ := HT.out.r (1, CanonOf (runsAt a.P)) (by simp) (hall 1 (by decide))
    have f1 : v1x1 = PV qa := e1
    subst f1
    have HSqa := hide Sqa
    have HQqa : Hid (CanonOf (runsAt a.P) qa.P) := qqa
    clear e1 Sqa qqa
    have e2 : v1x2 = PV b := HT.out.h 2 (by decide) (hall 2 (by decide)) (fun hm => absurd hm (by decide))
    subst e2
    obtain ⟨qb, e3, Sqb, qqb, -⟩ := HT.out.r (3, CanonOf (runsAt b.P)) (by simp) (hall 3 (by decide))
    have f3 : v1x3 = PV qb := e3
    subst f3
    have HSqb := hide Sqb
    have HQqb : Hid (CanonOf (runsAt b.P) qb.P) := qqb
    clear e3 Sqb qqb
    obtain ⟨ga, e4, -, -, -, k4⟩ := HT.out.a (4, 6, 1) (by simp) (hall 4 (by decide))
    have HXga : Hid (PBox W ga qa) := k4 (hall 6 (by decide)) qa rfl
    have f4 : v1x4 = ptr ga := e4
    subst f4
    clear e4 k4
    obtain ⟨gb, e5, -, -, -, k5⟩ := HT.out.a (5, 7, 3) (by simp) (hall 5 (by decide))
    have HXgb : Hid (PBox W gb qb) := k5 (hall 7 (by decide)) qb rfl
    have f5 : v1x5 = ptr gb := e5
    subst f5
    clear e5 k5
    have by1 := HT.out.b
    rename World => y1
    clear hall HT l
    replace HXA := hide (HXA.out.below by1)
    replace HXB := hide (HXB.out.below by1)
    replace HA := hide (HA.out.below by1)
    replace HB := hide (HB.out.below by1)
    have HBWy1 := hide (HBWwk.out.trans (by1.mono HBWwk.out.size))
    clear by1
    obtain ⟨va, ca⟩ := HXga.out.nums
    obtain ⟨vb, cb⟩ := HXgb.out.nums
    have HC : Hid (CmpOf a.P b.P (cmpP qa.P qb.P)) := ⟨qa.P, qb.P, HQqa.out, HQqb.out, rfl⟩
    go_wp2_with fail
    refine (slCompare_any _ _ _ _ _ _ qa.P.vec qb.P.vec _ HSqa.out.vec HSqb.out.vec HSqa.out.big HSqb.out.big).mono ?_
    rintro e z1 ⟨rfl, bz1⟩
    have ca' := (bz1.cell (World.block_lt_of_cell? _ _ ca)).trans ca
    have cb' := (bz1.cell (World.block_lt_of_cell? _ _ cb)).trans cb
    have HBz := hide (HBWy1.out.trans (bz1.mono HBWy1.out.size))
    have HCA := hide (HSqa.out.below bz1).cloud
    have HCC := hide (HSqb.out.below bz1).cloud
    clear va vb ca cb bz1
    by_cases h0 : lex cmpI qa.P.vec qb.P.vec = 0
    · have HE : Hid (cmpP qa.P qb.P = lex cmp3 qa.P.cloud qb.P.cloud) := by show _ = _; unfold cmpP; rw [if_pos h0]
      rw [h0]
      clear h0
      go_wp2_with fail
      refine (slCompareS_any _ _ _ _ _ _ qa.P.cloud qb.P.cloud _ HCA.out HCC.out).mono ?_
      rintro e z2 ⟨rfl, bz2⟩
      have HBE := hide (HBz.out.trans (bz2.mono HBz.out.size))
      rw [← HE.out]
      generalize cmpP qa.P qb.P = z at HC ⊢
      clear HE bz2 ca' cb'
      go_wp2_with fail
      go_ret
      exact ⟨z, rfl, HC.out, HBE.out⟩
    · have HE : Hid (cmpP qa.P qb.P = lex cmpI qa.P.vec qb.P.vec) := by show _ = _; unfold cmpP; rw [if_neg h0]
      rw [← HE.out] at h0 ⊢
      generalize cmpP qa.P qb.P = z at HC h0 ⊢
      have h0' : (z != 0) = true := by simpa using h0
      clear HE h0
      go_wp2_with fail
      go_ret
      exact ⟨z, rfl, HC.out, HBz.out⟩
end Go.Proofs.Ytiogmeaianogmaa
