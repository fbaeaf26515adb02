/- Plain: lines and texts, what stands in them; the first lines; lines behind a script. -/
import Derived.Test.YtpnnlfhknnnfhaaGreatDoorKPc
namespace Go.Proofs.YtpnnlfhknnnfhaaGreatDoor
open Go.RowKit T Y

theorem skipG_bytes (l : List UInt8) : ∀ c ∈ l, gapB c = true ∨ c ∈ skipG l := by
  unfold skipG
  induction l with
  | nil => simp
  | cons d l ih =>
    intro c hc
    by_cases hd : gapB d = true
    · rw [List.dropWhile_cons_of_pos hd]
      rcases List.mem_cons.1 hc with rfl | hc
      · exact Or.inl hd
      · exact ih c hc
    · rw [List.dropWhile_cons_of_neg hd]
      exact Or.inr hc
theorem cutR_bytes : ∀ (m : Nat) (l : List UInt8), l.length ≤ m → ∀ ws, cutR l = some ws → ∀ c ∈ l, gapB c = true ∨ ∃ w ∈ ws, c ∈ w
  | m, l, hm, ws, h => by
    intro c hc
    rcases skipG_bytes l c hc with hg | hs
    · exact Or.inl hg
    · cases hw : wlen (skipG l) with
      | none =>
        rw [cutR_none rfl (List.ne_nil_of_mem hs) hw] at h
        cases h
      | some n =>
        rw [cutR_some rfl hw] at h
        obtain ⟨vs, hv, rfl⟩ := Option.map_eq_some_iff.1 h
        have hn := wlen_pos hw
        have hl : (skipG l).length ≤ l.length := (List.dropWhile_sublist _).length_le
        have h0 : 0 < (skipG l).length := List.length_pos_iff.2 (List.ne_nil_of_mem hs)
        have e : c ∈ (skipG l).take n ++ (skipG l).drop n := by rw [List.take_append_drop]; exact hs
        rcases List.mem_append.1 e with h1 | h1
        · exact Or.inr ⟨_, by simp, h1⟩
        · match m, hm with
          | 0, hm => omega
          | m + 1, hm =>
            rcases cutR_bytes m ((skipG l).drop n) (by rw [List.length_drop]; omega) vs hv c h1 with hg | ⟨w, hw, hcw⟩
            · exact Or.inl hg
            · exact Or.inr ⟨w, by simp [hw], hcw⟩
theorem unq_no10 : ∀ (m : Nat) (l : List UInt8), l.length ≤ m → ∀ t, unq l = some t → ∀ c ∈ l, c ≠ 10
  | m, [], _, _, _ => by simp
  | 0, c :: l, hm, _, _ => by simp at hm
  | m + 1, c :: l, hm, t, h => by
    have hm' : l.length ≤ m := by simpa using hm
    cases hs : selfB c with
    | true =>
      rw [unq_self hs] at h
      obtain ⟨u, hu, _⟩ := Option.map_eq_some_iff.1 h
      intro d hd
      rcases List.mem_cons.1 hd with rfl | hd
      · have := self_byte hs
        rintro rfl
        simp at this
      · exact unq_no10 m l hm' u hu d hd
    | false =>
      match l, hm' with
      | x :: a :: b :: r, hm' =>
        rw [unq_esc hs] at h
        split at h
        · rename_i hh
          obtain ⟨u, hu, _⟩ := Option.map_eq_some_iff.1 h
          have h10 : hxv 10 < 0 := by decide
          intro d hd
          simp only [List.mem_cons] at hd
          rcases hd with rfl | rfl | rfl | rfl | hd
          · rw [hh.1]; decide
          · rw [hh.2.1]; decide
          · rintro rfl; omega
          · rintro rfl; omega
          · exact unq_no10 m r (by simp at hm'; omega) u hu d hd
        · cases h
      | [], _ => rw [unq_short hs _ (by simp)] at h; cases h
      | [x], _ => rw [unq_short hs _ (by simp)] at h; cases h
      | [x, y], _ => rw [unq_short hs _ (by simp)] at h; cases h
theorem num_no10 {w : List UInt8} {n : Int} (h : numOf w = some n) : ∀ c ∈ w, c ≠ 10 := by
  intro c hc
  rw [← (numOf_eq h).1] at hc
  have := (num_bytes n).2 c hc
  rintro rfl
  simp at this
theorem sku_no10 {w t : List UInt8} (h : skuOf w = some t) : ∀ c ∈ w, c ≠ 10 := by
  unfold skuOf at h
  split at h
  · rename_i hg
    intro c hc
    have := good_byte hg hc
    rintro rfl
    simp at this
  · split at h
    · rename_i hh
      have h1 := unq_no10 _ _ (Nat.le_refl _) t h
      obtain ⟨h2, h3, h4⟩ := hh
      intro c hc
      obtain ⟨i, hi, e⟩ := List.getElem_of_mem hc
      by_cases hi0 : i = 0
      · subst hi0
        rw [List.getD, List.getElem?_eq_getElem hi, e] at h3
        simp only [Option.getD_some] at h3
        rw [h3]; decide
      · by_cases hil : i = w.length - 1
        · subst hil
          rw [List.getD, List.getElem?_eq_getElem hi, e] at h4
          simp only [Option.getD_some] at h4
          rw [h4]; decide
        · refine h1 c ?_
          rw [List.mem_iff_getElem?]
          refine ⟨i - 1, ?_⟩
          rw [List.getElem?_drop, List.getElem?_take, if_pos (by omega), show 1 + (i - 1) = i by omega, List.getElem?_eq_getElem hi, e]
    · cases h
theorem putF_no10 {o p : Sp} {f : UInt8} {w : List UInt8} (h : putF o f w = some p) : ∀ c ∈ w, c ≠ 10 := by
  unfold putF at h
  split at h
  · obtain ⟨t, ht, _⟩ := Option.map_eq_some_iff.1 h
    exact sku_no10 ht
  · obtain ⟨n, hn, _⟩ := Option.map_eq_some_iff.1 h
    exact num_no10 hn
theorem putAll_no10 : ∀ (fs : List UInt8) (ws : List (List UInt8)) (o p : Sp), ws.length = fs.length → putAll o fs ws = some p → ∀ w ∈ ws, ∀ c ∈ w, c ≠ 10
  | [], [], _, _, _, _ => by simp
  | [], w :: ws, _, _, h, _ => by simp at h
  | f :: fs, [], _, _, h, _ => by simp at h
  | f :: fs, w :: ws, o, p, hl, h => by
    rw [putAll] at h
    obtain ⟨q, hq, hr⟩ := Option.bind_eq_some_iff.1 h
    intro x hx
    rcases List.mem_cons.1 hx with rfl | hx
    · exact putF_no10 hq
    · exact putAll_no10 fs ws q p (by simpa using hl) hr x hx
theorem step_no10 {ws : List (List UInt8)} {o : Sp} (h : stepP ws = some o) : ws ≠ [] ∧ ∀ w ∈ ws, ∀ c ∈ w, c ≠ 10 := by
  cases ws with
  | nil => cases h
  | cons w r =>
    refine ⟨by simp, ?_⟩
    unfold stepP at h
    simp only at h
    obtain ⟨k, hk, h⟩ := Option.bind_eq_some_iff.1 h
    split at h
    · rename_i hl
      obtain ⟨p, hp, h⟩ := Option.bind_eq_some_iff.1 h
      split at h
      · rename_i hw
        intro x hx c hc
        rcases List.mem_cons.1 hx with rfl | hx
        · rw [← hw] at hc
          have := (wrd_bytes _ (kdN_lt p.kind)).2 c hc
          rintro rfl
          simp at this
        · exact putAll_no10 _ r _ p hl hp x hx c hc
      · cases h
    · cases h
theorem parse_no10 {l : List UInt8} {o : Sp} (h : parseOpP l = some o) : ∀ c ∈ l, c ≠ 10 := by
  unfold parseOpP at h
  obtain ⟨ws, hw, hs⟩ := Option.bind_eq_some_iff.1 h
  obtain ⟨h0, h1⟩ := step_no10 hs
  unfold cutP at hw
  split at hw
  · exact absurd (Option.some.inj hw).symm h0
  · intro c hc
    rcases cutR_bytes _ l (Nat.le_refl _) ws hw c hc with hg | ⟨w, hm, hcw⟩
    · rintro rfl
      exact absurd hg (by decide)
    · exact h1 w hm c hcw
/-- a text is one line, or a line and a rest -/
theorem line_or (t : List UInt8) : (∃ a b, t = a ++ 10 :: b ∧ ∀ c ∈ a, c ≠ 10) ∨ ∀ c ∈ t, c ≠ 10 := by
  induction t with
  | nil => exact Or.inr (by simp)
  | cons c t ih =>
    by_cases hc : c = 10
    · exact Or.inl ⟨[], t, by simp [hc], by simp⟩
    · rcases ih with ⟨a, b, e, h⟩ | h
      · refine Or.inl ⟨c :: a, b, by simp [e], fun d hd => ?_⟩
        rcases List.mem_cons.1 hd with rfl | hd
        · exact hc
        · exact h d hd
      · refine Or.inr fun d hd => ?_
        rcases List.mem_cons.1 hd with rfl | hd
        · exact hc
        · exact h d hd
/-- the first lines of a text -/
def upL : Nat → List UInt8 → List UInt8
  | _, [] => []
  | 0, _ :: _ => []
  | k + 1, c :: t => if c = 10 then c :: upL k t else c :: upL (k + 1) t
theorem upL_zero (t : List UInt8) : upL 0 t = [] := by cases t <;> rfl
theorem upL_line {a : List UInt8} (h : ∀ c ∈ a, c ≠ 10) (b : List UInt8) (k : Nat) : upL (k + 1) (a ++ 10 :: b) = a ++ 10 :: upL k b := by
  induction a with
  | nil => simp [upL]
  | cons c a ih =>
    rw [List.cons_append, upL, if_neg (h c (by simp)), ih fun x hx => h x (by simp [hx])]
    rfl
theorem upL_all {a : List UInt8} (h : ∀ c ∈ a, c ≠ 10) (k : Nat) : upL (k + 1) a = a := by
  induction a with
  | nil => rfl
  | cons c a ih => rw [upL, if_neg (h c (by simp)), ih fun x hx => h x (by simp [hx])]
theorem parse_first : ∀ (m : Nat) (t : List UInt8), t.length ≤ m → ∀ (r : Rd) (k n : Nat), parseT r k t = .bad n → k < n ∧ parseT r k (upL (n - k) t) = .bad n ∧ (parseT r k (upL (n - k - 1) t) = .bad n ∨ ∃ h L, parseT r k (upL (n - k - 1) t) = .ok h L) := by
  intro m
  induction m with
  | zero =>
    intro t ht r k n h
    have : t = [] := List.eq_nil_of_length_eq_zero (by omega)
    subst this
    have h2 := h
    rw [parseT_nil] at h2
    have hu : ∀ j, upL j ([] : List UInt8) = [] := fun j => by cases j <;> rfl
    rw [hu, hu]
    cases hd : r.hd with
    | none => rw [hd] at h2; cases h2; exact ⟨by omega, h, Or.inl h⟩
    | some x => rw [hd] at h2; cases h2
  | succ m ih =>
    intro t ht r k n h
    by_cases h0 : t = []
    · subst h0
      have h2 := h
      rw [parseT_nil] at h2
      have hu : ∀ j, upL j ([] : List UInt8) = [] := fun j => by cases j <;> rfl
      rw [hu, hu]
      cases hd : r.hd with
      | none => rw [hd] at h2; cases h2; exact ⟨by omega, h, Or.inl h⟩
      | some x => rw [hd] at h2; cases h2
    · have hnil : parseT r k [] = .bad (k + 1) ∨ ∃ h L, parseT r k [] = .ok h L := by
        rw [parseT_nil]
        cases r.hd with
        | none => exact Or.inl rfl
        | some x => exact Or.inr ⟨_, _, rfl⟩
      rcases line_or t with ⟨a, b, rfl, ha⟩ | ha
      · have hl := line_app ha b
        cases hk : takeP r a with
        | none =>
          rw [parseT_bad h0 (by rw [hl.1]; exact hk)] at h
          cases h
          rw [show k + 1 - k = 0 + 1 by omega, upL_line ha, show 0 + 1 - 1 = 0 by omega, upL_zero, upL_zero]
          refine ⟨by omega, ?_, hnil⟩
          have hl2 := line_app ha []
          exact parseT_bad (by simp) (by rw [hl2.1]; exact hk)
        | some r' =>
          rw [parseT_go h0 (by rw [hl.1]; exact hk), hl.2] at h
          obtain ⟨h1, h2, h3⟩ := ih b (by simp at ht; omega) r' (k + 1) n h
          obtain ⟨j, rfl⟩ : ∃ j, n = k + 1 + (j + 1) := ⟨n - k - 2, by omega⟩
          rw [show k + 1 + (j + 1) - k = (j + 1) + 1 by omega, upL_line ha, show j + 1 + 1 - 1 = j + 1 by omega, upL_line ha]
          rw [show k + 1 + (j + 1) - (k + 1) = j + 1 by omega] at h2 h3
          rw [show j + 1 - 1 = j by omega] at h3
          have hl2 := fun u => line_app ha u
          refine ⟨by omega, ?_, ?_⟩
          · rw [parseT_go (by simp) (by rw [(hl2 _).1]; exact hk), (hl2 _).2]; exact h2
          · rw [parseT_go (by simp) (by rw [(hl2 _).1]; exact hk), (hl2 _).2]; exact h3
      · have hl := line_all ha
        have h' := h
        cases hk : takeP r t with
        | none =>
          rw [parseT_bad h0 (by rw [hl.1]; exact hk)] at h
          cases h
          rw [show k + 1 - k = 0 + 1 by omega, upL_all ha, show 0 + 1 - 1 = 0 by omega, upL_zero]
          exact ⟨by omega, h', hnil⟩
        | some r' =>
          rw [parseT_go h0 (by rw [hl.1]; exact hk), hl.2, parseT_nil] at h
          cases hd : r'.hd with
          | none =>
            rw [hd] at h
            cases h
            rw [show k + 1 + 1 - k = 1 + 1 by omega, upL_all ha, show 1 + 1 - 1 = 0 + 1 by omega, upL_all ha]
            exact ⟨by omega, h', Or.inl h'⟩
          | some x => rw [hd] at h; cases h
def cnt10 (t : List UInt8) : Nat := t.countP (fun c => c == 10)
theorem cnt_line {a : List UInt8} (h : ∀ c ∈ a, c ≠ 10) : cnt10 a = 0 := by
  unfold cnt10
  rw [List.countP_eq_zero]
  intro c hc
  simpa using h c hc
theorem cnt_app (a b : List UInt8) : cnt10 (a ++ 10 :: b) = cnt10 a + cnt10 b + 1 := by
  unfold cnt10
  rw [List.countP_append, List.countP_cons]
  simp
  omega
theorem take_nil (r : Rd) : takeP r [] = some r := by
  have : cutP [] = some [] := by unfold cutP; rw [if_neg (by decide)]; exact cutR_nil rfl
  unfold takeP
  rw [this]
/-- more lines behind a text that is a script -/
theorem parse_more : ∀ (m : Nat) (t : List UInt8), t.length ≤ m → ∀ (r : Rd) (k : Nat) (h : List Int) (L : List Sp) (u : List UInt8), parseT r k t = .ok h L → parseT r k (t ++ 10 :: u) = parseT ⟨some h, L⟩ (k + cnt10 t + 1) u := by
  intro m
  induction m with
  | zero =>
    intro t ht r k h L u hp
    have : t = [] := List.eq_nil_of_length_eq_zero (by omega)
    subst this
    rw [parseT_nil] at hp
    cases hd : r.hd with
    | none => rw [hd] at hp; cases hp
    | some x =>
      rw [hd] at hp
      cases hp
      have hl := line_app (a := []) (by simp) u
      rw [parseT_go (r' := r) (by simp) (by rw [hl.1]; exact take_nil r), hl.2]
      cases r
      cases hd
      rfl
  | succ m ih =>
    intro t ht r k h L u hp
    by_cases h0 : t = []
    · subst h0
      rw [parseT_nil] at hp
      cases hd : r.hd with
      | none => rw [hd] at hp; cases hp
      | some x =>
        rw [hd] at hp
        cases hp
        have hl := line_app (a := []) (by simp) u
        rw [parseT_go (r' := r) (by simp) (by rw [hl.1]; exact take_nil r), hl.2]
        cases r
        cases hd
        rfl
    · rcases line_or t with ⟨a, b, rfl, ha⟩ | ha
      · have hl := line_app ha b
        have hl2 := line_app ha (b ++ 10 :: u)
        cases hk : takeP r a with
        | none => rw [parseT_bad h0 (by rw [hl.1]; exact hk)] at hp; cases hp
        | some r' =>
          rw [parseT_go h0 (by rw [hl.1]; exact hk), hl.2] at hp
          rw [List.append_assoc, List.cons_append, parseT_go (by simp) (by rw [hl2.1]; exact hk), hl2.2, ih b (by simp at ht; omega) r' (k + 1) h L u hp, cnt_app, cnt_line ha]
          congr 1
          omega
      · have hl := line_all ha
        have hl2 := line_app ha u
        cases hk : takeP r t with
        | none => rw [parseT_bad h0 (by rw [hl.1]; exact hk)] at hp; cases hp
        | some r' =>
          rw [parseT_go h0 (by rw [hl.1]; exact hk), hl.2, parseT_nil] at hp
          rw [parseT_go (by simp) (by rw [hl2.1]; exact hk), hl2.2, cnt_line ha]
          cases hd : r'.hd with
          | none => rw [hd] at hp; cases hp
          | some x =>
            rw [hd] at hp
            cases hp
            cases r'
            cases hd
            rfl
end Go.Proofs.YtpnnlfhknnnfhaaGreatDoor
