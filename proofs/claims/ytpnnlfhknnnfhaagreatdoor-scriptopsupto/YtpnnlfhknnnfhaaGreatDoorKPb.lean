/- Plain: a step read; a step printed is read as the plain one. -/
import Derived.Test.YtpnnlfhknnnfhaaGreatDoorKPa
import Derived.Test.YtpnnlfhknnnfhaaGreatDoorJFd
namespace Go.Proofs.YtpnnlfhknnnfhaaGreatDoor
open Go.RowKit T Y

/-- a number put into a field -/
def setN (o : Sp) (f : UInt8) (n : Int) : Sp :=
  if f.toNat = 107 then { o with kind := n } else if f.toNat = 114 then { o with rep := n } else if f.toNat = 99 then { o with cart := n } else if f.toNat = 116 then { o with dst := n } else if f.toNat = 113 then { o with qty := n } else { o with nr := n }
/-- a word put into a field -/
def putF (o : Sp) (f : UInt8) (w : List UInt8) : Option Sp :=
  if f.toNat = 115 then (skuOf w).map (fun s => { o with sku := bs s }) else (numOf w).map (setN o f)
def putAll : Sp → List UInt8 → List (List UInt8) → Option Sp
  | o, f :: fs, w :: ws => (putF o f w).bind fun p => putAll p fs ws
  | o, _, _ => some o
/-- the kind that a word tells -/
def kindIx (w : List UInt8) : Option Nat := shp.findIdx? (fun p => p.1 == w)
def fdsK (k : Nat) : List UInt8 := (shp.getD k ([], [])).2
/-- the step that words say -/
def stepP (ws : List (List UInt8)) : Option Sp :=
  match ws with
  | [] => none
  | w :: r => (kindIx w).bind fun k => if r.length = (fdsK k).length then (putAll { sp0 with kind := (k : Int) } (fdsK k) r).bind fun o => if wrdL o.kind = w then some o else none else none
def parseOpP (l : List UInt8) : Option Sp := (cutP l).bind stepP
/-- a field of one step put into another -/
def cpF (o p : Sp) (f : UInt8) : Sp := if f.toNat = 115 then { p with sku := o.sku } else setN p f (fdN o f)
/-- the step with the fields that its kind uses -/
def plainP (o : Sp) : Sp := (fdsL o.kind).foldl (cpF o) { sp0 with kind := o.kind }
/-- what cutting takes as one word -/
structure Wordy (w : List UInt8) : Prop where
  hd : ∃ c t, w = c :: t ∧ gapB c = false
  ln : ∀ r, (r = [] ∨ ∃ c t, r = c :: t ∧ gapB c = true) → wlen (w ++ r) = some w.length
theorem take_all {p : UInt8 → Bool} {w : List UInt8} (h : ∀ c ∈ w, p c = true) (r : List UInt8) (hr : r = [] ∨ ∃ c t, r = c :: t ∧ p c = false) : (w ++ r).takeWhile p = w := by
  induction w with
  | nil =>
    rcases hr with rfl | ⟨c, t, rfl, hc⟩
    · rfl
    · simp [hc]
  | cons c t ih =>
    rw [List.cons_append, List.takeWhile_cons_of_pos (h c (by simp)), ih (fun c hc => h c (by simp [hc]))]
theorem wordy_plain {w : List UInt8} (h0 : w ≠ []) (h : ∀ c ∈ w, gapB c = false ∧ c ≠ 34) : Wordy w := by
  cases w with
  | nil => exact absurd rfl h0
  | cons c t =>
    have hc := h c (by simp)
    refine ⟨⟨c, t, rfl, hc.1⟩, fun r hr => ?_⟩
    unfold wlen
    simp only [List.cons_append]
    rw [if_neg hc.2, take_all (fun c hc => by simp [(h c (by simp [hc])).1]) r (by
      rcases hr with e | ⟨c, t, e, hg⟩
      · exact Or.inl e
      · exact Or.inr ⟨c, t, e, by simp [hg]⟩)]
    simp [Nat.add_comm]
theorem indexByte_app {l : List UInt8} {c : UInt8} (h : ∀ d ∈ l, d ≠ c) (r : List UInt8) : Lib.indexByte (l ++ c :: r) c = (l.length : Int) := by
  induction l with
  | nil => simp [Lib.indexByte]
  | cons d l ih =>
    have e := ih fun x hx => h x (by simp [hx])
    rw [List.cons_append, Lib.indexByte, if_neg (by simpa using h d (by simp)), e, if_neg (by simp)]
    simp
theorem wordy_quoted {q : List UInt8} (h : ∀ c ∈ q, c ≠ 34) : Wordy ([34] ++ q ++ [34]) := by
  refine ⟨⟨34, q ++ [34], rfl, by decide⟩, fun r hr => ?_⟩
  unfold wlen
  simp only [List.cons_append, List.nil_append, List.append_assoc]
  rw [if_pos trivial, indexByte_app h r, if_neg (by omega)]
  have hn : ((q.length : Nat) : Int).toNat + 2 = q.length + 2 := by simp
  rw [hn]
  have hl : (34 :: (q ++ [34])).length = q.length + 2 := by simp
  rcases hr with e | ⟨c, t, e, hg⟩
  · subst e
    rw [if_pos (Or.inl (by simp))]
    simp
  · subst e
    rw [if_pos (Or.inr _)]
    · simp
    · have : (34 :: (q ++ 34 :: c :: t)).getD (q.length + 2) 0 = c := by
        rw [List.getD, List.getElem?_cons_succ, List.getElem?_append_right (by omega)]
        simp
      rw [this]
      exact hg
theorem num_bytes (n : Int) : num n ≠ [] ∧ ∀ c ∈ num n, 45 ≤ c.toNat ∧ c.toNat ≤ 57 := by
  unfold num Lib.itoa
  split
  · refine ⟨by simp, fun c hc => ?_⟩
    rcases List.mem_cons.1 hc with rfl | hc
    · decide
    · have := dec_digits _ c hc; omega
  · exact ⟨dec_ne _, fun c hc => by have := dec_digits _ c hc; omega⟩
theorem gap_no {c : UInt8} (h : 33 ≤ c.toNat) : gapB c = false := by
  unfold gapB
  cases hq : ([32, 9, 13] : List UInt8).contains c with
  | false => rfl
  | true =>
    simp at hq
    rcases hq with rfl | rfl | rfl <;> simp at h
theorem ne_34 {c : UInt8} (h : 35 ≤ c.toNat) : c ≠ 34 := by
  rintro rfl
  simp at h
theorem wordy_num (n : Int) : Wordy (num n) := wordy_plain (num_bytes n).1 fun c hc => by
  have := (num_bytes n).2 c hc
  exact ⟨gap_no (by omega), ne_34 (by omega)⟩
theorem self_byte {c : UInt8} (h : selfB c = true) : 33 ≤ c.toNat ∧ c.toNat ≤ 126 ∧ c.toNat ≠ 34 ∧ c.toNat ≠ 92 := by
  unfold selfB at h
  simp only [Bool.and_eq_true, decide_eq_true_eq, Bool.not_eq_true', beq_eq_false_iff_ne] at h
  omega
theorem hx_byte : ∀ n, n < 16 → 48 ≤ (hx n).toNat ∧ (hx n).toNat ≤ 102 := by decide
theorem qb_byte (c d : UInt8) (h : d ∈ qb c) : 33 ≤ d.toNat ∧ d.toNat ≤ 126 ∧ d.toNat ≠ 34 := by
  unfold qb at h
  split at h
  · simp only [List.mem_singleton] at h
    subst h
    have := self_byte (by assumption)
    omega
  · have hb := c.toNat_lt
    have h1 := hx_byte (c.toNat / 16) (by omega)
    have h2 := hx_byte (c.toNat % 16) (by omega)
    simp only [List.mem_cons, List.not_mem_nil, or_false] at h
    rcases h with rfl | rfl | rfl | rfl
    · decide
    · decide
    · omega
    · omega
theorem qbs_byte (l : List UInt8) (d : UInt8) (h : d ∈ qbs l) : 33 ≤ d.toNat ∧ d.toNat ≤ 126 ∧ d.toNat ≠ 34 := by
  unfold qbs at h
  obtain ⟨x, hx, hd⟩ := List.mem_flatten.1 h
  obtain ⟨c, _, rfl⟩ := List.mem_map.1 hx
  exact qb_byte c d hd
theorem skT_byte (l : List UInt8) (d : UInt8) (h : d ∈ skT l) : 33 ≤ d.toNat ∧ d.toNat ≤ 126 := by
  unfold skT at h
  split at h
  · have := good_byte (by assumption) h; omega
  · simp only [List.mem_append, List.mem_singleton] at h
    rcases h with (rfl | h) | rfl
    · decide
    · have := qbs_byte l d h; omega
    · decide
theorem wordy_sku (l : List UInt8) : Wordy (skT l) := by
  unfold skT
  split
  · refine wordy_plain (good_bytes (by assumption)).1 fun c hc => ?_
    have := good_byte (by assumption) hc
    exact ⟨gap_no (by omega), ne_34 (by omega)⟩
  · exact wordy_quoted fun c hc => by
      have := qbs_byte l c hc
      rintro rfl
      simp at this
theorem wordy_fd (o : Sp) (f : UInt8) : Wordy (fdT o f) := by
  unfold fdT
  split
  · exact wordy_sku _
  · exact wordy_num _
theorem wrd_bytes : ∀ i, i < 17 → (shp.getD i ([], [])).1 ≠ [] ∧ ∀ c ∈ (shp.getD i ([], [])).1, 97 ≤ c.toNat ∧ c.toNat ≤ 122 := by decide
theorem wordy_wrd (k : Int) : Wordy (wrdL k) := wordy_plain (wrd_bytes _ (kdN_lt k)).1 fun c hc => by
  have := (wrd_bytes _ (kdN_lt k)).2 c hc
  exact ⟨gap_no (by omega), ne_34 (by omega)⟩
theorem skipG_wordy {w : List UInt8} (h : Wordy w) (r : List UInt8) : skipG (w ++ r) = w ++ r := by
  obtain ⟨c, t, rfl, hc⟩ := h.hd
  unfold skipG
  rw [List.cons_append, List.dropWhile_cons_of_neg (by simp [hc])]
/-- words with gaps between them -/
theorem cutR_words : ∀ (ws : List (List UInt8)) (w : List UInt8), Wordy w → (∀ x ∈ ws, Wordy x) → cutR (w ++ (ws.map ([32] ++ ·)).flatten) = some (w :: ws)
  | [], w, hw, _ => by
    simp only [List.map_nil, List.flatten_nil]
    rw [cutR_some (skipG_wordy hw []) (hw.ln [] (Or.inl rfl))]
    have e : cutR [] = some [] := cutR_nil rfl
    simp [e]
  | x :: ws, w, hw, h => by
    have hx := h x (by simp)
    have hr := cutR_words ws x hx fun y hy => h y (by simp [hy])
    rw [List.map_cons, List.flatten_cons]
    rw [cutR_some (skipG_wordy hw _) (hw.ln _ (Or.inr ⟨32, x ++ (ws.map ([32] ++ ·)).flatten, by simp, by decide⟩))]
    rw [List.drop_left, List.take_left]
    have e : cutR ([32] ++ x ++ (ws.map ([32] ++ ·)).flatten) = some (x :: ws) := by
      rw [← cutR_skip]
      have : skipG ([32] ++ x ++ (ws.map ([32] ++ ·)).flatten) = x ++ (ws.map ([32] ++ ·)).flatten := by
        unfold skipG
        simp only [List.cons_append, List.nil_append]
        rw [List.dropWhile_cons_of_pos (by decide)]
        exact skipG_wordy hx _
      rw [this, hr]
    rw [e]
    rfl
theorem cutP_words {w : List UInt8} {ws : List (List UInt8)} (hw : Wordy w) (h : ∀ x ∈ ws, Wordy x) (h35 : w.head? ≠ some 35) : cutP (w ++ (ws.map ([32] ++ ·)).flatten) = some (w :: ws) := by
  unfold cutP
  rw [skipG_wordy hw, if_neg, cutR_words ws w hw h]
  obtain ⟨c, t, rfl, hc⟩ := hw.hd
  exact h35
theorem kindIx_wrd : ∀ i, i < 17 → kindIx (shp.getD i ([], [])).1 = some i := by decide
theorem putF_fd (o p : Sp) (h : Ok o) (f : UInt8) : putF p f (fdT o f) = some (cpF o p f) := by
  unfold putF fdT cpF
  split
  · rw [skuOf_skT]
    simp [bs_of]
  · rw [numOf_num _ (h.lo f) (h.hi f)]
    rfl
theorem putAll_fd (o : Sp) (h : Ok o) : ∀ (fs : List UInt8) (p : Sp), putAll p fs (fs.map (fdT o)) = some (fs.foldl (cpF o) p)
  | [], p => rfl
  | f :: fs, p => by
    rw [List.map_cons, putAll, putF_fd o p h f]
    exact putAll_fd o h fs _
theorem kind_keeps (o : Sp) : ∀ (fs : List UInt8) (p : Sp), (∀ f ∈ fs, f.toNat ≠ 107) → (fs.foldl (cpF o) p).kind = p.kind
  | [], _, _ => rfl
  | f :: fs, p, h => by
    rw [List.foldl_cons, kind_keeps o fs _ fun x hx => h x (by simp [hx])]
    have := h f (by simp)
    unfold cpF setN
    repeat' split
    all_goals first | rfl | contradiction
theorem fds_no_k : ∀ i, i < 17 → i ≠ 0 → ∀ f ∈ (shp.getD i ([], [])).2, f.toNat ≠ 107 := by decide
/-- the step's number, or 0, makes no odds -/
theorem plain_from (o : Sp) : (fdsL o.kind).foldl (cpF o) { sp0 with kind := (kdN o.kind : Int) } = plainP o := by
  unfold plainP
  by_cases h : 1 ≤ o.kind ∧ o.kind ≤ 16
  · have : ((kdN o.kind : Nat) : Int) = o.kind := by unfold kdN; rw [if_pos h]; omega
    rw [this]
  · have e : kdN o.kind = 0 := by unfold kdN; rw [if_neg h]
    have e2 : fdsL o.kind = [107] := by unfold fdsL; rw [e]; rfl
    rw [e2]
    rfl
theorem plain_kind (o : Sp) : (plainP o).kind = o.kind := by
  by_cases h : 1 ≤ o.kind ∧ o.kind ≤ 16
  · unfold plainP
    have hk : kdN o.kind ≠ 0 := by unfold kdN; rw [if_pos h]; omega
    exact kind_keeps o (fdsL o.kind) _ (fds_no_k (kdN o.kind) (kdN_lt _) hk)
  · have e : kdN o.kind = 0 := by unfold kdN; rw [if_neg h]
    have e2 : fdsL o.kind = [107] := by unfold fdsL; rw [e]; rfl
    unfold plainP
    rw [e2]
    rfl
theorem head_wrd (k : Int) : (wrdL k).head? ≠ some 35 := by
  have : ∀ i, i < 17 → (shp.getD i ([], [])).1.head? ≠ some 35 := by decide
  exact this _ (kdN_lt k)
theorem opT_words (o : Sp) : opT o = wrdL o.kind ++ (((fdsL o.kind).map (fdT o)).map ([32] ++ ·)).flatten := by
  unfold opT fdsT
  rw [List.map_map]
  rfl
theorem cut_opT (o : Sp) : cutP (opT o) = some (wrdL o.kind :: (fdsL o.kind).map (fdT o)) := by
  rw [opT_words]
  refine cutP_words (wordy_wrd _) (fun x hx => ?_) (head_wrd _)
  obtain ⟨f, _, rfl⟩ := List.mem_map.1 hx
  exact wordy_fd o f
theorem step_opT (o : Sp) (h : Ok o) : stepP (wrdL o.kind :: (fdsL o.kind).map (fdT o)) = some (plainP o) := by
  unfold stepP
  simp only
  have hk : kindIx (wrdL o.kind) = some (kdN o.kind) := kindIx_wrd _ (kdN_lt _)
  have hf : fdsK (kdN o.kind) = fdsL o.kind := rfl
  rw [hk, Option.bind_some, hf, if_pos (by simp), putAll_fd o h, plain_from, Option.bind_some, plain_kind, if_pos rfl]
/-- a step's line is read as the plain step -/
theorem parse_print (o : Sp) (h : Ok o) : parseOpP (opT o) = some (plainP o) := by
  unfold parseOpP
  rw [cut_opT, Option.bind_some, step_opT o h]
def cls (f : UInt8) : Nat := if f.toNat = 107 then 0 else if f.toNat = 114 then 1 else if f.toNat = 99 then 2 else if f.toNat = 116 then 3 else if f.toNat = 113 then 5 else 6
def fdC (o : Sp) (k : Nat) : Int := match k with | 0 => o.kind | 1 => o.rep | 2 => o.cart | 3 => o.dst | 5 => o.qty | _ => o.nr
def stC (o : Sp) (k : Nat) (n : Int) : Sp := match k with | 0 => { o with kind := n } | 1 => { o with rep := n } | 2 => { o with cart := n } | 3 => { o with dst := n } | 5 => { o with qty := n } | _ => { o with nr := n }
theorem fdN_C (o : Sp) (f : UInt8) : fdN o f = fdC o (cls f) := by
  unfold fdN cls
  repeat' split
  all_goals rfl
theorem setN_C (o : Sp) (f : UInt8) (n : Int) : setN o f n = stC o (cls f) n := by
  unfold setN cls
  repeat' split
  all_goals rfl
theorem cls_in (f : UInt8) : cls f = 0 ∨ cls f = 1 ∨ cls f = 2 ∨ cls f = 3 ∨ cls f = 5 ∨ cls f = 6 := by
  unfold cls
  repeat' split
  all_goals simp
theorem fdC_stC (p : Sp) (f g : UInt8) (n : Int) : fdC (stC p (cls g) n) (cls f) = if cls f = cls g then n else fdC p (cls f) := by
  rcases cls_in f with e | e | e | e | e | e <;> rcases cls_in g with e2 | e2 | e2 | e2 | e2 | e2 <;> rw [e, e2] <;> rfl
theorem fdN_set (p : Sp) (f g : UInt8) (n : Int) : fdN (setN p g n) f = if cls f = cls g then n else fdN p f := by
  rw [fdN_C, setN_C, fdC_stC, fdN_C]
theorem fdN_cp (o p : Sp) (f g : UInt8) : fdN (cpF o p g) f = fdN o f ∨ fdN (cpF o p g) f = fdN p f := by
  unfold cpF
  split
  · exact Or.inr rfl
  · rw [fdN_set]
    split
    · left
      rw [fdN_C, fdN_C]
      congr 1
      exact Eq.symm (by assumption)
    · exact Or.inr rfl
theorem fdN_own (o p : Sp) (f : UInt8) (hf : f.toNat ≠ 115) : fdN (cpF o p f) f = fdN o f := by
  unfold cpF
  rw [if_neg hf, fdN_set, if_pos rfl]
theorem sku_cp (o p : Sp) (g : UInt8) : (cpF o p g).sku = o.sku ∨ (cpF o p g).sku = p.sku := by
  unfold cpF setN
  repeat' split
  all_goals first | exact Or.inl rfl | exact Or.inr rfl
theorem sku_own (o p : Sp) (g : UInt8) (h : g.toNat = 115) : (cpF o p g).sku = o.sku := by
  unfold cpF
  rw [if_pos h]
theorem fold_fdN (o : Sp) (f : UInt8) : ∀ (fs : List UInt8) (p : Sp), fdN p f = fdN o f ∨ (f ∈ fs ∧ f.toNat ≠ 115) → fdN (fs.foldl (cpF o) p) f = fdN o f
  | [], p, h => by
    rcases h with h | h
    · exact h
    · simp at h
  | g :: fs, p, h => by
    rw [List.foldl_cons]
    refine fold_fdN o f fs _ ?_
    rcases h with h | ⟨h, h2⟩
    · rcases fdN_cp o p f g with e | e
      · exact Or.inl e
      · exact Or.inl (e.trans h)
    · rcases List.mem_cons.1 h with rfl | h
      · exact Or.inl (fdN_own o p f h2)
      · exact Or.inr ⟨h, h2⟩
theorem fold_sku (o : Sp) : ∀ (fs : List UInt8) (p : Sp), p.sku = o.sku ∨ (∃ f ∈ fs, f.toNat = 115) → (fs.foldl (cpF o) p).sku = o.sku
  | [], p, h => by
    rcases h with h | ⟨f, h, _⟩
    · exact h
    · simp at h
  | g :: fs, p, h => by
    rw [List.foldl_cons]
    refine fold_sku o fs _ ?_
    rcases h with h | ⟨f, h, h2⟩
    · rcases sku_cp o p g with e | e
      · exact Or.inl e
      · exact Or.inl (e.trans h)
    · rcases List.mem_cons.1 h with rfl | h
      · exact Or.inl (sku_own o p f h2)
      · exact Or.inr ⟨f, h, h2⟩
theorem plain_fd (o : Sp) (f : UInt8) (hf : f ∈ fdsL o.kind) : fdT (plainP o) f = fdT o f := by
  unfold fdT
  split
  · rw [show (plainP o).sku = o.sku from fold_sku o _ _ (Or.inr ⟨f, hf, by assumption⟩)]
  · rw [show fdN (plainP o) f = fdN o f from fold_fdN o f _ _ (Or.inr ⟨hf, by assumption⟩)]
theorem plain_line (o : Sp) : opT (plainP o) = opT o := by
  rw [opT_words, opT_words, plain_kind]
  congr 3
  exact List.map_congr_left fun f hf => plain_fd o f hf
theorem fold_keeps (o : Sp) (P : Int → Prop) (ho : ∀ f, P (fdN o f)) : ∀ (fs : List UInt8) (p : Sp), (∀ f, P (fdN p f)) → ∀ f, P (fdN (fs.foldl (cpF o) p) f)
  | [], _, h => h
  | g :: fs, p, h => by
    rw [List.foldl_cons]
    refine fold_keeps o P ho fs _ fun f => ?_
    rcases fdN_cp o p f g with e | e
    · rw [e]; exact ho f
    · rw [e]; exact h f
theorem fold_skus (o : Sp) (P : ByteArray → Prop) (ho : P o.sku) : ∀ (fs : List UInt8) (p : Sp), P p.sku → P (fs.foldl (cpF o) p).sku
  | [], _, h => h
  | g :: fs, p, h => by
    rw [List.foldl_cons]
    refine fold_skus o P ho fs _ ?_
    rcases sku_cp o p g with e | e
    · rw [e]; exact ho
    · rw [e]; exact h
theorem plain_ok (o : Sp) (h : Ok o) : Ok (plainP o) := by
  have hz : ∀ f, fdN { sp0 with kind := o.kind } f = o.kind ∨ fdN { sp0 with kind := o.kind } f = 0 := by
    intro f
    unfold fdN
    repeat' split
    all_goals first | exact Or.inl rfl | exact Or.inr rfl
  have hk : fdN o 107 = o.kind := rfl
  refine ⟨fold_keeps o (fun n => -9223372036854775808 ≤ n) h.lo _ _ fun f => ?_, fold_keeps o (fun n => n ≤ 9223372036854775807) h.hi _ _ fun f => ?_, fold_skus o (fun s => s.size ≤ 1000000000000) h.sk _ _ (show (⟨#[]⟩ : ByteArray).size ≤ 1000000000000 by decide)⟩
  · have := h.lo 107
    show -9223372036854775808 ≤ _
    rcases hz f with e | e <;> rw [e] <;> omega
  · have := h.hi 107
    show _ ≤ (9223372036854775807 : Int)
    rcases hz f with e | e <;> rw [e] <;> omega
theorem plain_plain (o : Sp) (h : Ok o) : plainP (plainP o) = plainP o := by
  have h1 := parse_print (plainP o) (plain_ok o h)
  rw [plain_line, parse_print o h] at h1
  exact (Option.some.inj h1).symm
theorem line_plain (a b : Sp) (ha : Ok a) (hb : Ok b) : opT a = opT b ↔ plainP a = plainP b := by
  constructor
  · intro e
    have h1 := parse_print a ha
    rw [e, parse_print b hb] at h1
    exact (Option.some.inj h1).symm
  · intro e
    rw [← plain_line a, e, plain_line b]
/-- a line's bytes -/
theorem line_bytes (o : Sp) (d : UInt8) (h : d ∈ opT o) : 32 ≤ d.toNat ∧ d.toNat ≤ 126 := by
  unfold opT fdsT at h
  rcases List.mem_append.1 h with h | h
  · have := (wrd_bytes _ (kdN_lt o.kind)).2 d h
    omega
  · obtain ⟨x, hx, hd⟩ := List.mem_flatten.1 h
    obtain ⟨f, _, rfl⟩ := List.mem_map.1 hx
    rcases List.mem_append.1 hd with hd | hd
    · simp only [List.mem_singleton] at hd
      subst hd
      decide
    · unfold fdT at hd
      split at hd
      · have := skT_byte _ d hd; omega
      · have := (num_bytes _).2 d hd; omega
end Go.Proofs.YtpnnlfhknnnfhaaGreatDoor
