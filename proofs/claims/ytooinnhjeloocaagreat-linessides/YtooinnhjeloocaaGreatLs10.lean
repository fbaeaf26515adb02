/- RNo RSz RPk RCo -/
import Derived.Test.YtooinnhjeloocaaGreatLs09
import Derived.Test.YtooinnhjeloocaaGreatLs02
namespace Go.Proofs.YtooinnhjeloocaaGreat
open Go.RowKit
attribute [local go_sem ↓] ldR_eq stR_eq
attribute [local go_sem] zero_RC cells_RV RC_size fold_RC
set_option maxRecDepth 100000 in
set_option maxHeartbeats 4000000 in
theorem norm_new (ao : Option Addr) (n cap : Nat) (L : List Rn) (w : World) (hS : RSrc w ao n cap L) :
    Calls Tryz.prog 89 #[.slice ao n cap] w fun e w' => GivesRN w w' e (NormOf L) := by
  have HS := hide hS
  have hn := hS.big
  have HL : Hid (L.length = n) := hS.len
  clear hS
  go_enter Tryz.func89, Tryz.ntmps89
  go_wp2_with fail
  go_loopw [3, 5, 6, 9] (fun v _ _ i wr => ∃ (k : Nat) (ap : Option Addr) (c : Nat) (acc : List Rn), k ≤ n ∧ acc.length ≤ k ∧ v = .slice ap acc.length c ∧ i = .int .i64 k ∧ Hid (acc = clips (L.take k) ∧ OwnR w.heap.size w.heap.size w wr ap c acc)) (fun _ _ _ i _ => n - (intOf i).toNat)
  case atStart => exact ⟨0, none, 0, [], Nat.zero_le _, Nat.le_refl _, rfl, rfl, rfl, OwnR.nil (Below.refl _ _) (Nat.le_refl _) (Nat.le_refl _)⟩
  case round =>
    obtain ⟨k, ap, c, acc, hk, hal, rfl, rfl, H⟩ := hrel
    rename World => w4
    by_cases hlt : k < n
    · obtain ⟨ad, rfl, A0⟩ := (HS.out.below H.out.2.below).at k hlt
      have hld := run_ldR A0
      obtain ⟨r, Hr⟩ : ∃ r, Hid (L.getD k rn0 = r) := ⟨_, rfl⟩
      rw [Hr.out] at hld
      have hkl : k < L.length := by rw [HL.out]; exact hlt
      have HT : Hid (clips (L.take (k + 1)) = acc ++ clips [r]) := by
        show _ = _
        rw [List.take_succ_eq_append_getElem hkl, show L[k] = r by rw [← Hr.out]; simp [List.getD, hkl], H.out.1]
        simp [clips]
      obtain ⟨w5, hst, X5, B5, Z5⟩ := made w4 r w4.heap.size rfl
      have lx := run_ldR X5.at
      have HO5 := hide (H.out.2.later B5)
      clear A0 X5 B5 hkl Z5
      go_wp2_with fail
      refine (clip_any r _).mono ?_
      rintro e w6 ⟨rfl, b6⟩
      have HO6 := hide (HO5.out.later b6)
      clear b6 lx hst hld
      obtain ⟨q, Hq⟩ : ∃ q, Hid (clip r = q) := ⟨_, rfl⟩
      rw [Hq.out]
      obtain ⟨w7, hst, X7, B7, Z7⟩ := made w6 q w6.heap.size rfl
      have HO7 := hide (HO6.out.later B7)
      have lq := run_ldR X7.at
      have c0 := X7.at.c0
      have c1 : w7.cell? ⟨w6.heap.size, 1, none⟩ = some (.int .i64 q.hi) := X7.at.c1
      clear X7 B7 Z7
      by_cases hc : q.lo ≤ q.hi
      · have HN : Hid (clips (L.take (k + 1)) = acc ++ [q]) := by show _ = _; rw [HT.out]; simp [clips, Hq.out, hc]
        go_wp2_with (at_builtin; refine HO7.out.append q _ rfl (by omega) rfl (.tmp 20) (.tmp 22) rfl acc.length rfl rfl rfl ?_; intro g8 c8 w8 O8)
        go_roundw
        case rel => exact ⟨k + 1, some ⟨g8, 0, none⟩, c8, acc ++ [q], by omega, by simp; omega, by simp, by go_num, HN.out.symm, O8⟩
        case measure => simp [intOf]; omega
      · have HN : Hid (clips (L.take (k + 1)) = acc) := by show _ = _; rw [HT.out]; simp [clips, Hq.out, hc]
        go_wp2_with fail
        go_roundw
        case rel => exact ⟨k + 1, ap, c, acc, by omega, by omega, rfl, by go_num, HN.out.symm, HO7.out⟩
        case measure => simp [intOf]; omega
    · obtain rfl : k = n := by omega
      have HE : Hid (acc = clips L) := by show _ = _; rw [H.out.1, List.take_of_length_le (by rw [HL.out]; exact Nat.le_refl _)]
      have HB4 := hide H.out.2.below
      cases ap with
      | none =>
        obtain ⟨S4, _⟩ := H.out.2.src (by omega)
        obtain ⟨e0, rfl⟩ := S4.nil rfl
        rw [e0]
        have hacc : acc = [] := List.eq_nil_of_length_eq_zero e0
        have HN : Hid (∀ m, mem [] m ↔ mem L m) := fun m => by rw [← clips_mem L m, ← HE.out, hacc]
        clear S4 e0 hacc
        go_wp2_with fail
        refine (sort0 none 0 _).mono ?_
        rintro e w5 ⟨rfl, rfl⟩
        go_wp2_with fail
        refine (merge_new none 0 0 [] _ (RSrc.empty _) List.Pairwise.nil (fun x hx => by cases hx)).mono ?_
        rintro e w6 ⟨a6, n6, c6, R6, rfl, S6, b6, f6, p6⟩
        have HF : Hid (GivesRN w w6 (.returned (.slice a6 n6 c6)) (NormOf L)) := ⟨a6, n6, c6, R6, rfl, S6, HB4.out.trans (b6.mono HB4.out.size), (fun ad h => Nat.le_trans HB4.out.size (f6 ad h)), p6.1, fun m => (p6.2 m).trans (HN.out m)⟩
        clear S6 b6 f6 p6
        go_wp2_with fail
        go_ret
        exact HF.out
      | some ap =>
        obtain ⟨M4, hbb, hc1, hc2⟩ := H.out.2.mr
        have HM4 := hide M4
        have HBB := hide hbb
        have HC1 := hide hc1
        have HC2 := hide hc2
        clear M4 hbb hc1 hc2
        obtain ⟨m, hm⟩ : ∃ m, acc.length = m := ⟨_, rfl⟩
        have HM := hide hm
        rw [hm] at hal ⊢
        clear hm
        go_wp2_with fail
        refine (sortFunc_any ap c m acc.toArray _ HM4.out (by rw [List.size_toArray]; exact HM.out) (by omega)).mono ?_
        rintro e w5 ⟨rfl, d5, hp, hs, hz, M5, b5⟩
        have HP := hide hp
        have HSR := hide hs
        have HS5 := hide (M5.rsrc m c hz (by rw [← HM.out]; exact HC1.out) HC2.out (by omega))
        have HB5 : Hid (Below w.heap.size w w5) := HB4.out.trans (b5.mono HBB.out)
        clear hp hs hz M5 b5
        go_wp2_with fail
        refine (merge_new (some ap) m c d5.toList _ HS5.out HSR.out (fun x hx => clips_in L x (by rw [← HE.out]; have := HP.out.mem_iff.1 hx; simpa using this))).mono ?_
        rintro e w6 ⟨a6, n6, c6, R6, rfl, S6, b6, f6, p6⟩
        have HF : Hid (GivesRN w w6 (.returned (.slice a6 n6 c6)) (NormOf L)) := ⟨a6, n6, c6, R6, rfl, S6, HB5.out.trans (b6.mono HB5.out.size), (fun ad h => Nat.le_trans HB5.out.size (f6 ad h)), p6.1, fun m => by
          rw [p6.2 m, ← clips_mem L m, ← HE.out]
          exact mem_congr (fun x => by have := HP.out.mem_iff (a := x); simpa using this) m⟩
        clear S6 b6 f6 p6
        go_wp2_with fail
        go_ret
        exact HF.out
theorem norm_any (ao : Option Addr) (n cap : Nat) (L : List Rn) (w : World) (hS : RSrc w ao n cap L) :
    Calls Tryz.prog 89 #[.slice ao n cap] w fun e w' => GivesR w w' e (NormOf L) := (norm_new ao n cap L w hS).mono fun _ _ h => h.gives
end Go.Proofs.YtooinnhjeloocaaGreat
namespace Go.Proofs.YtooinnhjeloocaaGreat
open Go.RowKit
attribute [local go_sem ↓] ldR_eq stR_eq
attribute [local go_sem] zero_RC cells_RV RC_size fold_RC
theorem RSrc.tail' {w : World} {b o m c : Nat} {r : Rn} {L : List Rn} (h : RSrc w (some ⟨b, o, none⟩) m c (r :: L)) : RSrc w (if c = 1 then some ⟨b, o, none⟩ else some ⟨b, o + 2, none⟩) (m - 1) (c - 1) L := by
  by_cases e : c = 1
  · rw [if_pos e]
    have h1 := h.len
    have h2 := h.cap
    simp at h1
    exact ⟨by omega, fun e => (by cases e), fun ad ha t ht => by omega, by omega, by omega, by omega⟩
  · rw [if_neg e]
    exact h.tail
theorem form_at : ∀ {a : List Rn} {l : Int} (k : Nat), 1 ≤ l → form l a → k < a.length → 1 ≤ (a.getD k rn0).lo ∧ (a.getD k rn0).lo ≤ (a.getD k rn0).hi ∧ (a.getD k rn0).hi ≤ 1000000000
  | r :: a, l, 0, hl, h, _ => by have := h.1; have := h.2.1; have := h.2.2.1; simp [List.getD]; omega
  | r :: a, l, k + 1, hl, h, hk => by
    have := form_at k (l := r.hi + 2) (by have := h.1; have := h.2.1; omega) h.2.2.2 (by simpa using hk)
    simpa [List.getD] using this
/-- how many numbers the set has -/
def SizeOf (A : List Rn) (k : Int) : Prop := ∃ R, NormOf A R ∧ k = sz R
end Go.Proofs.YtooinnhjeloocaaGreat
namespace Go.Proofs.YtooinnhjeloocaaGreat

def pick : List Rn → Int → Int
  | [], _ => 0
  | r :: a, k => if k ≤ r.hi - r.lo + 1 then r.lo + k - 1 else pick a (k - (r.hi - r.lo + 1))
def pk (a : List Rn) (k : Int) : Int := if k < 1 then 0 else pick a k
def cutTo : List Rn → Int → List Rn
  | [], _ => []
  | r :: a, n => if n < r.lo then [] else if n ≤ r.hi then [⟨r.lo, n⟩] else r :: cutTo a n
def rk (a : List Rn) (n : Int) : Int := sz (cutTo a n)
def fst : List Rn → Int → Int
  | [], _ => 0
  | r :: a, f => if f ≤ r.hi then max r.lo f else fst a f
theorem cutTo_form : ∀ {a : List Rn} {l : Int} (n : Int), form l a → form l (cutTo a n)
  | [], _, _, _ => trivial
  | r :: a, l, n, h => by
    unfold cutTo
    split
    · trivial
    · split
      · exact ⟨h.1, by simp only; omega, by have := h.2.2.1; simp only; omega, trivial⟩
      · exact ⟨h.1, h.2.1, h.2.2.1, cutTo_form n h.2.2.2⟩
theorem cutTo_mem : ∀ {a : List Rn} {l : Int} (n : Int), form l a → ∀ m, mem (cutTo a n) m ↔ mem a m ∧ m ≤ n
  | [], _, _, _, m => ⟨fun h => absurd h (mem_nil m), fun h => h.1⟩
  | r :: a, l, n, h, m => by
    have hs : form r.lo (r :: a) := ⟨Int.le_refl _, h.2⟩
    have ih := cutTo_mem n h.2.2.2 m
    unfold cutTo
    split
    · constructor
      · exact fun e => absurd e (mem_nil m)
      · rintro ⟨e, h2⟩
        have := form_ge hs e
        omega
    · split
      · rw [mem_one, mem_cons]
        simp only
        constructor
        · rintro ⟨h1, h2, h3, h4⟩
          exact ⟨Or.inl ⟨h1, h2, h3, by omega⟩, h4⟩
        · rintro ⟨e | e, h2⟩
          · exact ⟨e.1, e.2.1, e.2.2.1, h2⟩
          · have := form_ge h.2.2.2 e
            omega
      · rw [mem_cons, mem_cons, ih]
        constructor
        · rintro (e | e)
          · exact ⟨Or.inl e, by omega⟩
          · exact ⟨Or.inr e.1, e.2⟩
        · rintro ⟨e | e, h2⟩
          · exact Or.inl e
          · exact Or.inr ⟨e, h2⟩
theorem rk_low {a : List Rn} {l n : Int} (h : form l a) (hn : n < l) : rk a n = 0 := by
  cases a with
  | nil => rfl
  | cons r a => unfold rk cutTo; rw [if_pos (by have := h.1; omega)]; rfl
theorem rk_before {r : Rn} {a : List Rn} {n : Int} (hn : n < r.lo) : rk (r :: a) n = 0 := by
  unfold rk cutTo; rw [if_pos hn]; rfl
theorem rk_in {r : Rn} {a : List Rn} {n : Int} (h1 : r.lo ≤ n) (h2 : n ≤ r.hi) : rk (r :: a) n = n - r.lo + 1 := by
  unfold rk cutTo; rw [if_neg (by omega), if_pos h2]; simp [sz]
theorem rk_past {r : Rn} {a : List Rn} {n : Int} (h1 : r.lo ≤ r.hi) (h2 : r.hi < n) : rk (r :: a) n = (r.hi - r.lo + 1) + rk a n := by
  unfold rk; rw [cutTo, if_neg (by omega), if_neg (by omega)]; simp [sz]
theorem pick_in {r : Rn} {a : List Rn} {k : Int} (h : k ≤ r.hi - r.lo + 1) : pick (r :: a) k = r.lo + k - 1 := by rw [pick, if_pos h]
theorem pick_past {r : Rn} {a : List Rn} {k : Int} (h : ¬ k ≤ r.hi - r.lo + 1) : pick (r :: a) k = pick a (k - (r.hi - r.lo + 1)) := by rw [pick, if_neg h]
theorem sz_cons (r : Rn) (a : List Rn) : sz (r :: a) = (r.hi - r.lo + 1) + sz a := rfl
theorem rk_bd : ∀ {a : List Rn} {l : Int} (n : Int), form l a → 0 ≤ rk a n ∧ rk a n ≤ sz a
  | [], _, _, _ => ⟨Int.le_refl _, Int.le_refl _⟩
  | r :: a, l, n, h => by
    have ih := rk_bd n h.2.2.2
    have h2 := h.2.1
    have h0 := (sz_bd h.2.2.2).1
    rw [sz_cons]
    by_cases c1 : n < r.lo
    · rw [rk_before c1]; omega
    · by_cases c2 : n ≤ r.hi
      · rw [rk_in (by omega) c2]; omega
      · rw [rk_past h2 (by omega)]; omega
theorem pick_good : ∀ {a : List Rn} {l k : Int}, 1 ≤ l → form l a → 1 ≤ k → k ≤ sz a → mem a (pick a k) ∧ rk a (pick a k) = k ∧ rk a (pick a k - 1) = k - 1 ∧ l ≤ pick a k ∧ pick a k ≤ 1000000000
  | [], _, k, _, _, h1, h2 => by simp [sz] at h2; omega
  | r :: a, l, k, hl, h, h1, h2 => by
    have f1 := h.1
    have f2 := h.2.1
    have f3 := h.2.2.1
    rw [sz_cons] at h2
    by_cases c : k ≤ r.hi - r.lo + 1
    · rw [pick_in c, rk_in (by omega) (by omega)]
      refine ⟨(mem_cons r a _).2 (Or.inl ⟨by omega, by omega, by omega, by omega⟩), by omega, ?_, by omega, by omega⟩
      by_cases c1 : k = 1
      · rw [rk_before (by omega)]; omega
      · rw [rk_in (by omega) (by omega)]; omega
    · obtain ⟨i1, i2, i3, i4, i5⟩ := pick_good (k := k - (r.hi - r.lo + 1)) (by omega) h.2.2.2 (by omega) (by omega)
      rw [pick_past c, rk_past f2 (by omega), rk_past f2 (by omega), i2, i3]
      exact ⟨(mem_cons r a _).2 (Or.inr i1), by omega, by omega, by omega, i5⟩
theorem pick_none : ∀ {a : List Rn} {l k : Int}, form l a → 1 ≤ k → ¬ k ≤ sz a → pick a k = 0
  | [], _, _, _, _, _ => rfl
  | r :: a, l, k, h, h1, h2 => by
    have h0 := (sz_bd h.2.2.2).1
    rw [sz_cons] at h2
    rw [pick_past (by omega)]
    exact pick_none h.2.2.2 (by omega) (by omega)
theorem pick_rk : ∀ {a : List Rn} {l : Int} (n : Int), form l a → 0 < rk a n → pick a (rk a n) ≤ n
  | [], _, n, _, h => by simp [rk, cutTo, sz] at h
  | r :: a, l, n, h, h0 => by
    have ih := pick_rk n h.2.2.2
    have hb := (rk_bd n h.2.2.2).1
    have f2 := h.2.1
    by_cases c1 : n < r.lo
    · rw [rk_before c1] at h0; omega
    · by_cases c2 : n ≤ r.hi
      · rw [rk_in (by omega) c2, pick_in (by omega)]; omega
      · rw [rk_past f2 (by omega)]
        by_cases c3 : rk a n = 0
        · rw [c3, pick_in (by omega)]; omega
        · rw [pick_past (by omega), show r.hi - r.lo + 1 + rk a n - (r.hi - r.lo + 1) = rk a n by omega]
          exact ih (by omega)
theorem fst_past {r : Rn} {a : List Rn} {f : Int} (h : r.hi < f) : fst (r :: a) f = fst a f := by rw [fst, if_neg (by omega)]
theorem fst_in {r : Rn} {a : List Rn} {f : Int} (h : f ≤ r.hi) : fst (r :: a) f = max r.lo f := by rw [fst, if_pos h]
theorem next_good : ∀ {a : List Rn} {l : Int} (n : Int), 1 ≤ l → form l a → rk a n + 1 ≤ sz a → n < pick a (rk a n + 1) ∧ ∀ f, (rk a n = 0 ∨ pick a (rk a n) < f) → f ≤ pick a (rk a n + 1) → fst a f = pick a (rk a n + 1)
  | [], _, n, _, _, h => by simp [rk, cutTo, sz] at h
  | r :: a, l, n, hl, h, h0 => by
    have ih := next_good n (l := r.hi + 2) (by have := h.1; have := h.2.1; omega) h.2.2.2
    have hb := (rk_bd n h.2.2.2).1
    have f1 := h.1
    have f2 := h.2.1
    rw [sz_cons] at h0
    by_cases c1 : n < r.lo
    · rw [rk_before c1, pick_in (by omega)]
      refine ⟨by omega, fun f _ hf => ?_⟩
      rw [fst_in (by omega)]; omega
    · by_cases c2 : n < r.hi
      · rw [rk_in (by omega) (by omega), pick_in (by omega), pick_in (by omega)]
        refine ⟨by omega, fun f h1 hf => ?_⟩
        rw [fst_in (by omega)]; omega
      · by_cases c3 : n = r.hi
        · have e0 : rk a n = 0 := rk_low h.2.2.2 (by omega)
          rw [rk_in (by omega) (by omega)] at h0 ⊢
          rw [e0] at ih
          obtain ⟨i1, i2⟩ := ih (by omega)
          rw [pick_in (k := n - r.lo + 1) (by omega), pick_past (by omega), show n - r.lo + 1 + 1 - (r.hi - r.lo + 1) = 0 + 1 by omega]
          refine ⟨i1, fun f h1 hf => ?_⟩
          rw [fst_past (by omega)]
          exact i2 f (Or.inl rfl) hf
        · rw [rk_past f2 (by omega)] at h0 ⊢
          obtain ⟨i1, i2⟩ := ih (by omega)
          rw [pick_past (k := r.hi - r.lo + 1 + rk a n + 1) (by omega), show r.hi - r.lo + 1 + rk a n + 1 - (r.hi - r.lo + 1) = rk a n + 1 by omega]
          refine ⟨i1, fun f h1 hf => ?_⟩
          by_cases c4 : rk a n = 0
          · rw [c4, pick_in (by omega)] at h1
            rw [fst_past (by omega)]
            exact i2 f (Or.inl c4) hf
          · rw [pick_past (by omega), show r.hi - r.lo + 1 + rk a n - (r.hi - r.lo + 1) = rk a n by omega] at h1
            have := (pick_good (l := r.hi + 2) (k := rk a n) (by omega) h.2.2.2 (by omega) (by omega)).2.2.2.1
            rw [fst_past (by omega)]
            exact i2 f (Or.inr (by omega)) hf
theorem fst_bd : ∀ {a : List Rn} {l : Int} (f : Int), 1 ≤ l → form l a → 0 ≤ fst a f ∧ fst a f ≤ 1000000000
  | [], _, _, _, _ => by simp [fst]
  | r :: a, l, f, hl, h => by
    have := fst_bd (l := r.hi + 2) f (by have := h.1; have := h.2.1; omega) h.2.2.2
    have := h.1
    have := h.2.1
    have := h.2.2.1
    by_cases c : f ≤ r.hi
    · rw [fst_in c]; omega
    · rw [fst_past (by omega)]; assumption
end Go.Proofs.YtooinnhjeloocaaGreat
namespace Go.Proofs.YtooinnhjeloocaaGreat

theorem rk_step : ∀ {a : List Rn} {l : Int} (n : Int), 1 ≤ n → n ≤ 1000000000 → form l a → (mem a n → rk a n = rk a (n - 1) + 1) ∧ (¬ mem a n → rk a n = rk a (n - 1))
  | [], _, n, _, _, _ => ⟨fun h => absurd h (mem_nil n), fun _ => rfl⟩
  | r :: a, l, n, h1, h2, h => by
    have ih := rk_step n h1 h2 h.2.2.2
    have f2 := h.2.1
    have hs : form r.lo (r :: a) := ⟨Int.le_refl _, h.2⟩
    by_cases c1 : n < r.lo
    · rw [rk_before c1, rk_before (by omega)]
      exact ⟨fun e => by have := form_ge hs e; omega, fun _ => rfl⟩
    · by_cases c2 : n ≤ r.hi
      · have hm : mem (r :: a) n := (mem_cons r a n).2 (Or.inl ⟨h1, h2, by omega, c2⟩)
        refine ⟨fun _ => ?_, fun e => absurd hm e⟩
        rw [rk_in (by omega) c2]
        by_cases c3 : n = r.lo
        · rw [rk_before (by omega)]; omega
        · rw [rk_in (by omega) (by omega)]; omega
      · have hm : mem (r :: a) n ↔ mem a n := by
          rw [mem_cons]
          exact ⟨fun e => e.elim (fun e => by omega) id, Or.inr⟩
        rw [hm, rk_past f2 (by omega)]
        by_cases c3 : n = r.hi + 1
        · have e0 : rk a n = 0 := rk_low h.2.2.2 (by omega)
          rw [rk_in (by omega) (by omega), e0]
          exact ⟨fun e => by have := form_ge h.2.2.2 e; omega, fun _ => by omega⟩
        · rw [rk_past f2 (by omega)]
          exact ⟨fun e => by have := ih.1 e; omega, fun e => by have := ih.2 e; omega⟩
theorem rk_full : ∀ {a : List Rn} {l : Int}, form l a → rk a 1000000000 = sz a
  | [], _, _ => rfl
  | r :: a, l, h => by
    have ih := rk_full h.2.2.2
    have f2 := h.2.1
    have f3 := h.2.2.1
    rw [sz_cons]
    by_cases c : r.hi = 1000000000
    · have hz := sz_bd h.2.2.2
      have e0 : a = [] := by
        rcases hz.2.1 with e | e
        · exact e
        · omega
      rw [rk_in (by omega) (by omega), e0]
      simp [sz]
      omega
    · rw [rk_past f2 (by omega), ih]
/-- two pairs of sets in which each number lies equally often are of one size -/
theorem sz_pairs {P Q R S : List Rn} (hP : form 1 P) (hQ : form 1 Q) (hR : form 1 R) (hS : form 1 S)
    (h : ∀ n, (mem P n ∨ mem Q n ↔ mem R n ∨ mem S n) ∧ (mem P n ∧ mem Q n ↔ mem R n ∧ mem S n)) : sz P + sz Q = sz R + sz S := by
  have key : ∀ k : Nat, k ≤ 1000000000 → rk P k + rk Q k = rk R k + rk S k := by
    intro k
    induction k with
    | zero => intro _; rw [rk_low hP (by omega), rk_low hQ (by omega), rk_low hR (by omega), rk_low hS (by omega)]
    | succ k ih =>
      intro hk
      have ih := ih (by omega)
      obtain ⟨p1, p2⟩ := rk_step ((k + 1 : Nat) : Int) (by omega) (by omega) hP
      obtain ⟨q1, q2⟩ := rk_step ((k + 1 : Nat) : Int) (by omega) (by omega) hQ
      obtain ⟨r1, r2⟩ := rk_step ((k + 1 : Nat) : Int) (by omega) (by omega) hR
      obtain ⟨s1, s2⟩ := rk_step ((k + 1 : Nat) : Int) (by omega) (by omega) hS
      rw [show ((k + 1 : Nat) : Int) - 1 = (k : Int) by omega] at p1 p2 q1 q2 r1 r2 s1 s2
      obtain ⟨g1, g2⟩ := h ((k + 1 : Nat) : Int)
      by_cases cP : mem P ((k + 1 : Nat) : Int) <;> by_cases cQ : mem Q ((k + 1 : Nat) : Int) <;> by_cases cR : mem R ((k + 1 : Nat) : Int) <;> by_cases cS : mem S ((k + 1 : Nat) : Int) <;> simp only [cP, cQ, cR, cS, not_true_eq_false, not_false_eq_true, forall_const, false_implies, or_self, or_true, and_self, and_true, and_false, or_false, iff_true, iff_false] at p1 p2 q1 q2 r1 r2 s1 s2 g1 g2 <;> omega
  have := key 1000000000 (Nat.le_refl _)
  rw [show ((1000000000 : Nat) : Int) = 1000000000 from rfl, rk_full hP, rk_full hQ, rk_full hR, rk_full hS] at this
  exact this
theorem sz_parts {P Q R : List Rn} (hP : form 1 P) (hQ : form 1 Q) (hR : form 1 R)
    (h : ∀ n, (mem P n ∨ mem Q n ↔ mem R n) ∧ ¬ (mem P n ∧ mem Q n)) : sz P + sz Q = sz R := by
  have := sz_pairs hP hQ hR (S := []) trivial (fun n => ⟨by rw [(h n).1]; exact ⟨Or.inl, fun e => e.elim id (fun e => absurd e (mem_nil n))⟩, fun e => absurd e (h n).2, fun e => absurd e.2 (mem_nil n)⟩)
  simpa [sz] using this
theorem sz_top {a : List Rn} (h : form 1 a) : 0 ≤ sz a ∧ sz a ≤ 1000000000 := by
  have hz := sz_bd h
  refine ⟨hz.1, ?_⟩
  rcases hz.2.1 with e | e
  · rw [e]; simp [sz]
  · omega
end Go.Proofs.YtooinnhjeloocaaGreat
