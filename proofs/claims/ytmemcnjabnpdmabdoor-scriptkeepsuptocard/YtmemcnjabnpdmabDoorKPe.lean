/- Plain: a script's text with its gaps and line ends spread is read as the script. -/
import Derived.Test.YtmemcnjabnpdmabDoorKPd
namespace Go.Proofs.YtmemcnjabnpdmabDoor
open Go.RowKit T Y

/-- what is put in a blank's place, and in a line end's -/
def fillL : List (List UInt8) := [[32], [32, 32], [9], [32, 13, 32], [9, 32, 9], [13]]
def rowsL : List (List UInt8) := [[10], [13, 10], [10, 10], [32, 10, 35, 32, 115, 116, 111, 114, 101, 32, 49, 32, 49, 10], [10, 32, 32, 35, 34, 10, 9, 10], [10, 35, 10, 35, 10]]
def fil (k : Nat) : List UInt8 := fillL.getD k []
def row (k : Nat) : List UInt8 := rowsL.getD k []
def sprd (K : Nat → Nat) : Nat → List UInt8 → List UInt8
  | _, [] => []
  | a, c :: t => if c = 32 then fil (K a) ++ sprd K (a + 1) t else if c = 10 then row (K a) ++ fil (K a) ++ sprd K (a + 1) t else c :: sprd K a t
def trailL : List (List UInt8) := [[], [13], [], [32], [], []]
def midL : List (List (List UInt8)) := [[], [], [[]], [[35, 32, 115, 116, 111, 114, 101, 32, 49, 32, 49]], [[32, 32, 35, 34], [9]], [[35], [35]]]
def gaps (l : List UInt8) : Prop := ∀ c ∈ l, gapB c = true
theorem fil_gaps : ∀ k, k < 6 → fil k ≠ [] ∧ ∀ c ∈ fil k, gapB c = true := by decide
theorem trail_gaps : ∀ k, k < 6 → ∀ c ∈ trailL.getD k [], gapB c = true := by decide
theorem row_parts : ∀ k, k < 6 → row k = trailL.getD k [] ++ 10 :: ((midL.getD k []).map (· ++ [10])).flatten := by decide
theorem mid_no10 : ∀ k, k < 6 → ∀ s ∈ midL.getD k [], ∀ c ∈ s, c ≠ 10 := by decide
theorem mid_head : ∀ k, k < 6 → ∀ s ∈ midL.getD k [], skipG s = [] ∨ (skipG s).head? = some 35 := by decide
theorem cutP_silent {s : List UInt8} (h : skipG s = [] ∨ (skipG s).head? = some 35) : cutP s = some [] := by
  unfold cutP
  rcases h with h | h
  · rw [h, if_neg (by simp)]
    exact cutR_nil h
  · rw [if_pos h]
theorem take_silent {s : List UInt8} (h : cutP s = some []) (r : Rd) : takeP r s = some r := by
  unfold takeP
  rw [h]
theorem parse_mid (r : Rd) : ∀ (M : List (List UInt8)) (n : Nat) (u : List UInt8), (∀ s ∈ M, ∀ c ∈ s, c ≠ 10) → (∀ s ∈ M, skipG s = [] ∨ (skipG s).head? = some 35) → ∃ m, parseT r n ((M.map (· ++ [10])).flatten ++ u) = parseT r m u
  | [], n, u, _, _ => ⟨n, rfl⟩
  | s :: M, n, u, h1, h2 => by
    have hl := line_app (h1 s (by simp)) ((M.map (· ++ [10])).flatten ++ u)
    obtain ⟨m, hm⟩ := parse_mid r M (n + 1) u (fun x hx => h1 x (by simp [hx])) (fun x hx => h2 x (by simp [hx]))
    refine ⟨m, ?_⟩
    have e : ((s :: M).map (· ++ [10])).flatten ++ u = s ++ 10 :: ((M.map (· ++ [10])).flatten ++ u) := by simp
    rw [e, parseT_go (by simp) (by rw [hl.1]; exact take_silent (cutP_silent (h2 s (by simp))) r), hl.2, hm]
theorem skipG_gaps {l : List UInt8} (h : gaps l) (t : List UInt8) : skipG (l ++ t) = skipG t := by
  unfold skipG
  induction l with
  | nil => rfl
  | cons c l ih => rw [List.cons_append, List.dropWhile_cons_of_pos (h c (by simp)), ih fun x hx => h x (by simp [hx])]
theorem skipG_all {l : List UInt8} (h : gaps l) : skipG l = [] := by
  have := skipG_gaps h []
  rw [List.append_nil] at this
  rw [this]
  rfl
/-- words with gaps ahead of them -/
def sepd (K : Nat → Nat) : Nat → List (List UInt8) → List UInt8
  | _, [] => []
  | a, x :: ws => fil (K a) ++ (x ++ sepd K (a + 1) ws)
theorem gap_head {l t : List UInt8} (h : gaps l) (h0 : l ≠ []) : ∃ c u, l ++ t = c :: u ∧ gapB c = true := by
  cases l with
  | nil => exact absurd rfl h0
  | cons c l => exact ⟨c, l ++ t, rfl, h c (by simp)⟩
theorem cutR_sep (K : Nat → Nat) (hK : ∀ a, K a < 6) : ∀ (ws : List (List UInt8)) (w : List UInt8) (a : Nat) (lead trail : List UInt8), gaps lead → gaps trail → Wordy w → (∀ x ∈ ws, Wordy x) → cutR (lead ++ (w ++ (sepd K a ws ++ trail))) = some (w :: ws)
  | [], w, a, lead, trail, hl, ht, hw, _ => by
    have e : skipG (lead ++ (w ++ (sepd K a [] ++ trail))) = w ++ trail := by rw [skipG_gaps hl]; exact skipG_wordy hw trail
    have hr : trail = [] ∨ ∃ c t, trail = c :: t ∧ gapB c = true := by
      cases trail with
      | nil => exact Or.inl rfl
      | cons c t => exact Or.inr ⟨c, t, rfl, ht c (by simp)⟩
    rw [cutR_some e (hw.ln trail hr), List.drop_left, List.take_left, cutR_nil (skipG_all ht)]
    rfl
  | x :: ws, w, a, lead, trail, hl, ht, hw, h => by
    have hf := fil_gaps (K a) (hK a)
    have e : skipG (lead ++ (w ++ (sepd K a (x :: ws) ++ trail))) = w ++ (fil (K a) ++ (x ++ (sepd K (a + 1) ws ++ trail))) := by
      rw [skipG_gaps hl]
      have : sepd K a (x :: ws) ++ trail = fil (K a) ++ (x ++ (sepd K (a + 1) ws ++ trail)) := by simp [sepd]
      rw [this]
      exact skipG_wordy hw _
    have hr : (fil (K a) ++ (x ++ (sepd K (a + 1) ws ++ trail))) = [] ∨ ∃ c t, (fil (K a) ++ (x ++ (sepd K (a + 1) ws ++ trail))) = c :: t ∧ gapB c = true := Or.inr (gap_head hf.2 hf.1)
    rw [cutR_some e (hw.ln _ hr), List.drop_left, List.take_left, cutR_sep K hK ws x (a + 1) (fil (K a)) trail hf.2 ht (h x (by simp)) (fun y hy => h y (by simp [hy]))]
    rfl
theorem cutP_sep (K : Nat → Nat) (hK : ∀ a, K a < 6) {ws : List (List UInt8)} {w : List UInt8} {a : Nat} {lead trail : List UInt8} (hl : gaps lead) (ht : gaps trail) (hw : Wordy w) (h : ∀ x ∈ ws, Wordy x) (h35 : w.head? ≠ some 35) : cutP (lead ++ (w ++ (sepd K a ws ++ trail))) = some (w :: ws) := by
  unfold cutP
  rw [skipG_gaps hl, skipG_wordy hw, if_neg, cutR_sep K hK ws w a lead trail hl ht hw h]
  obtain ⟨c, t, rfl, hc⟩ := hw.hd
  exact h35
theorem sprd_word (K : Nat → Nat) (a : Nat) {w : List UInt8} (h : ∀ c ∈ w, c ≠ 32 ∧ c ≠ 10) (t : List UInt8) : sprd K a (w ++ t) = w ++ sprd K a t := by
  induction w with
  | nil => rfl
  | cons c w ih =>
    have hc := h c (by simp)
    rw [List.cons_append, sprd, if_neg hc.1, if_neg hc.2, ih fun x hx => h x (by simp [hx])]
    rfl
theorem sprd_words (K : Nat → Nat) : ∀ (ws : List (List UInt8)) (a : Nat) (t : List UInt8), (∀ x ∈ ws, ∀ c ∈ x, c ≠ 32 ∧ c ≠ 10) → sprd K a ((ws.map ([32] ++ ·)).flatten ++ t) = sepd K a ws ++ sprd K (a + ws.length) t
  | [], a, t, _ => rfl
  | x :: ws, a, t, h => by
    have e : ((x :: ws).map ([32] ++ ·)).flatten ++ t = 32 :: (x ++ ((ws.map ([32] ++ ·)).flatten ++ t)) := by simp
    rw [e, sprd, if_pos rfl, sprd_word K (a + 1) (h x (by simp)), sprd_words K ws (a + 1) t fun y hy => h y (by simp [hy])]
    simp only [sepd, List.append_assoc, List.length_cons]
    rw [show a + 1 + ws.length = a + (ws.length + 1) by omega]
theorem gaps_no10 {l : List UInt8} (h : gaps l) : ∀ c ∈ l, c ≠ 10 := by
  intro c hc
  have := h c hc
  rintro rfl
  exact absurd this (by decide)
theorem sepd_no10 (K : Nat → Nat) (hK : ∀ a, K a < 6) : ∀ (ws : List (List UInt8)) (a : Nat), (∀ x ∈ ws, ∀ c ∈ x, c ≠ 32 ∧ c ≠ 10) → ∀ c ∈ sepd K a ws, c ≠ 10
  | [], a, _ => by simp [sepd]
  | x :: ws, a, h => by
    intro c hc
    rw [sepd] at hc
    rcases List.mem_append.1 hc with hc | hc
    · exact gaps_no10 (fil_gaps (K a) (hK a)).2 c hc
    · rcases List.mem_append.1 hc with hc | hc
      · exact (h x (by simp) c hc).2
      · exact sepd_no10 K hK ws (a + 1) (fun y hy => h y (by simp [hy])) c hc
/-- a line of words, spread, and what is behind it -/
theorem parse_spread (K : Nat → Nat) (hK : ∀ a, K a < 6) {w : List UInt8} {ws : List (List UInt8)} (hw : Wordy w) (hws : ∀ x ∈ ws, Wordy x) (hb : ∀ x ∈ w :: ws, ∀ c ∈ x, c ≠ 32 ∧ c ≠ 10) (h35 : w.head? ≠ some 35) {r r' : Rd} (htk : ∀ l, cutP l = some (w :: ws) → takeP r l = some r') (lead : List UInt8) (hl : gaps lead) (n a : Nat) (t : List UInt8) :
    ∃ m b lead2, gaps lead2 ∧ parseT r n (lead ++ sprd K a (w ++ (ws.map ([32] ++ ·)).flatten ++ 10 :: t)) = parseT r' m (lead2 ++ sprd K b t) := by
  have hb1 := hb w (by simp)
  have hb2 : ∀ x ∈ ws, ∀ c ∈ x, c ≠ 32 ∧ c ≠ 10 := fun x hx => hb x (by simp [hx])
  have e : sprd K a (w ++ (ws.map ([32] ++ ·)).flatten ++ 10 :: t) = w ++ (sepd K a ws ++ (row (K (a + ws.length)) ++ fil (K (a + ws.length)) ++ sprd K (a + ws.length + 1) t)) := by
    rw [List.append_assoc, sprd_word K a hb1, sprd_words K ws a _ hb2, sprd, if_neg (by decide), if_pos rfl]
  obtain ⟨k, hk⟩ : ∃ k, K (a + ws.length) = k := ⟨_, rfl⟩
  have hk6 : k < 6 := by rw [← hk]; exact hK _
  have htr := trail_gaps k hk6
  have hno : ∀ c ∈ lead ++ (w ++ (sepd K a ws ++ trailL.getD k [])), c ≠ 10 := by
    intro c hc
    rcases List.mem_append.1 hc with hc | hc
    · exact gaps_no10 hl c hc
    · rcases List.mem_append.1 hc with hc | hc
      · exact (hb1 c hc).2
      · rcases List.mem_append.1 hc with hc | hc
        · exact sepd_no10 K hK ws a hb2 c hc
        · exact gaps_no10 htr c hc
  have hla := line_app hno (((midL.getD k []).map (· ++ [10])).flatten ++ (fil k ++ sprd K (a + ws.length + 1) t))
  have e2 : lead ++ sprd K a (w ++ (ws.map ([32] ++ ·)).flatten ++ 10 :: t) = (lead ++ (w ++ (sepd K a ws ++ trailL.getD k []))) ++ 10 :: (((midL.getD k []).map (· ++ [10])).flatten ++ (fil k ++ sprd K (a + ws.length + 1) t)) := by
    rw [e, hk, row_parts k hk6]
    simp
  obtain ⟨m, hm⟩ := parse_mid r' (midL.getD k []) (n + 1) (fil k ++ sprd K (a + ws.length + 1) t) (mid_no10 k hk6) (mid_head k hk6)
  refine ⟨m, a + ws.length + 1, fil k, (fil_gaps k hk6).2, ?_⟩
  rw [e2, parseT_go (by simp) (by rw [hla.1]; exact htk _ (cutP_sep K hK hl htr hw hws h35)), hla.2, hm]
theorem fd_bytes (o : Sp) (f : UInt8) : ∀ c ∈ fdT o f, c ≠ 32 ∧ c ≠ 10 := by
  intro c hc
  have h : 33 ≤ c.toNat := by
    unfold fdT at hc
    split at hc
    · exact (skT_byte _ c hc).1
    · have := (num_bytes _).2 c hc; omega
  constructor
  · rintro rfl; simp at h
  · rintro rfl; simp at h
theorem wrd_no (k : Int) : ∀ c ∈ wrdL k, c ≠ 32 ∧ c ≠ 10 := by
  intro c hc
  have := (wrd_bytes _ (kdN_lt k)).2 c hc
  constructor
  · rintro rfl; simp at this
  · rintro rfl; simp at this
theorem spread_ops (K : Nat → Nat) (hK : ∀ a, K a < 6) (h : List Int) : ∀ (L A : List Sp) (n a : Nat) (lead : List UInt8), gaps lead → (∀ o ∈ L, Ok o) → parseT ⟨some h, A⟩ n (lead ++ sprd K a (opsT L)) = .ok h (A ++ L.map plainP)
  | [], A, n, a, lead, hl, _ => by
    have e : lead ++ sprd K a (opsT []) = lead := by simp [opsT, sprd]
    rw [e]
    by_cases h0 : lead = []
    · rw [h0, parseT_nil]; simp
    · have hla := line_all (gaps_no10 hl)
      rw [parseT_go h0 (by rw [hla.1]; exact take_silent (cutP_silent (Or.inl (skipG_all hl))) _), hla.2, parseT_nil]
      simp
  | o :: L, A, n, a, lead, hl, hL => by
    have e : opsT (o :: L) = wrdL o.kind ++ (((fdsL o.kind).map (fdT o)).map ([32] ++ ·)).flatten ++ 10 :: opsT L := by
      rw [← opT_words]
      simp [opsT]
    obtain ⟨m, b, lead2, hl2, hp⟩ := parse_spread K hK (r := ⟨some h, A⟩) (r' := ⟨some h, A ++ [plainP o]⟩) (wordy_wrd o.kind) (ws := (fdsL o.kind).map (fdT o)) (fun x hx => by
      obtain ⟨f, _, rfl⟩ := List.mem_map.1 hx
      exact wordy_fd o f) (fun x hx => by
      rcases List.mem_cons.1 hx with rfl | hx
      · exact wrd_no o.kind
      · obtain ⟨f, _, rfl⟩ := List.mem_map.1 hx
        exact fd_bytes o f) (head_wrd o.kind) (fun l hc => by
      unfold takeP
      rw [hc]
      simp only
      rw [step_opT o (hL o (by simp))]
      rfl) lead hl n a (opsT L)
    rw [e, hp, spread_ops K hK h L (A ++ [plainP o]) m b lead2 hl2 fun x hx => hL x (by simp [hx])]
    simp
/-- a script's text, spread, is read as the script -/
theorem spread_all (K : Nat → Nat) (hK : ∀ a, K a < 6) (h : List Int) (hh6 : h.length = 6) (hh : ∀ n ∈ h, -9223372036854775808 ≤ n ∧ n ≤ 9223372036854775807) (L : List Sp) (hL : ∀ o ∈ L, Ok o) : parseP (sprd K 0 (printT h L)) = .ok h (L.map plainP) := by
  have e : printT h L = storeL ++ ((h.map num).map ([32] ++ ·)).flatten ++ 10 :: opsT L := by
    unfold printT
    rw [store_words]
    simp
  obtain ⟨m, b, lead2, hl2, hp⟩ := parse_spread K hK (r := ⟨none, []⟩) (r' := ⟨some h, []⟩) wordy_store (ws := h.map num) (fun x hx => by
    obtain ⟨f, _, rfl⟩ := List.mem_map.1 hx
    exact wordy_num f) (fun x hx => by
    rcases List.mem_cons.1 hx with rfl | hx
    · decide
    · obtain ⟨f, _, rfl⟩ := List.mem_map.1 hx
      intro c hc
      have := (num_bytes f).2 c hc
      constructor
      · rintro rfl; simp at this
      · rintro rfl; simp at this) (by decide) (fun l hc => by
    unfold takeP
    rw [hc]
    simp only
    rw [head_store h hh6 hh]
    rfl) [] (fun c hc => by cases hc) 0 0 (opsT L)
  unfold parseP
  rw [e]
  rw [List.nil_append] at hp
  rw [hp, spread_ops K hK h L [] m b lead2 hl2 hL]
  rfl
theorem row_len : ∀ k, k < 6 → (fil k).length ≤ 3 ∧ (row k).length ≤ 14 := by decide
end Go.Proofs.YtmemcnjabnpdmabDoor
