/- Plain: a script read; a script printed is read as the script with plain steps. -/
import Derived.Test.YtpnnlfhknnnfhaaGreatDoorKPb
namespace Go.Proofs.YtpnnlfhknnnfhaaGreatDoor
open Go.RowKit T Y

/-- the head that words say -/
def numsOf : List (List UInt8) → Option (List Int)
  | [] => some []
  | w :: ws => (numOf w).bind fun n => (numsOf ws).map (n :: ·)
def headP (ws : List (List UInt8)) : Option (List Int) := if ws.getD 0 [] = storeL ∧ ws.length = 7 then numsOf (ws.drop 1) else none
/-- what was read of a script: its head, if there was one, and its steps -/
structure Rd where
  hd : Option (List Int)
  ops : List Sp
/-- one line more -/
def takeP (r : Rd) (l : List UInt8) : Option Rd :=
  match cutP l with
  | none => none
  | some [] => some r
  | some (w :: ws) =>
    match r.hd with
    | none => (headP (w :: ws)).map fun h => ⟨some h, r.ops⟩
    | some h => (stepP (w :: ws)).map fun o => ⟨some h, r.ops ++ [o]⟩
def lineOf (t : List UInt8) : List UInt8 := t.takeWhile (fun c => c != 10)
def restOf (t : List UInt8) : List UInt8 := (t.dropWhile (fun c => c != 10)).drop 1
theorem rest_lt {t : List UInt8} (h : t ≠ []) : (restOf t).length < t.length := by
  unfold restOf
  cases t with
  | nil => exact absurd rfl h
  | cons c t =>
    have := (List.dropWhile_sublist (l := c :: t) (fun c => c != 10)).length_le
    rw [List.length_drop]
    simp only [List.length_cons] at *
    omega
/-- how a script's reading ends -/
inductive Pr where
  | ok (h : List Int) (L : List Sp)
  | bad (n : Nat)
def parseT (r : Rd) (n : Nat) (t : List UInt8) : Pr :=
  if _h : t = [] then (match r.hd with
    | none => .bad (n + 1)
    | some hd => .ok hd r.ops)
  else match takeP r (lineOf t) with
    | none => .bad (n + 1)
    | some r' => parseT r' (n + 1) (restOf t)
termination_by t.length
decreasing_by exact rest_lt _h
theorem parseT_nil (r : Rd) (n : Nat) : parseT r n [] = (match r.hd with | none => .bad (n + 1) | some hd => .ok hd r.ops) := by rw [parseT, dif_pos rfl]
theorem parseT_bad {r : Rd} {n : Nat} {t : List UInt8} (h : t ≠ []) (h1 : takeP r (lineOf t) = none) : parseT r n t = .bad (n + 1) := by rw [parseT, dif_neg h, h1]
theorem parseT_go {r r' : Rd} {n : Nat} {t : List UInt8} (h : t ≠ []) (h1 : takeP r (lineOf t) = some r') : parseT r n t = parseT r' (n + 1) (restOf t) := by rw [parseT, dif_neg h, h1]
def parseP (t : List UInt8) : Pr := parseT ⟨none, []⟩ 0 t
theorem line_app {a : List UInt8} (h : ∀ c ∈ a, c ≠ 10) (b : List UInt8) : lineOf (a ++ 10 :: b) = a ∧ restOf (a ++ 10 :: b) = b := by
  unfold lineOf restOf
  induction a with
  | nil => simp
  | cons c a ih =>
    have hc : (c != 10) = true := by simpa using h c (by simp)
    have := ih fun x hx => h x (by simp [hx])
    rw [List.cons_append, List.takeWhile_cons_of_pos (p := fun c => c != 10) hc, List.dropWhile_cons_of_pos (p := fun c => c != 10) hc, this.1, this.2]
    exact ⟨rfl, rfl⟩
theorem line_all {a : List UInt8} (h : ∀ c ∈ a, c ≠ 10) : lineOf a = a ∧ restOf a = [] := by
  unfold lineOf restOf
  induction a with
  | nil => simp
  | cons c a ih =>
    have hc : (c != 10) = true := by simpa using h c (by simp)
    have := ih fun x hx => h x (by simp [hx])
    rw [List.takeWhile_cons_of_pos (p := fun c => c != 10) hc, List.dropWhile_cons_of_pos (p := fun c => c != 10) hc, this.1, this.2]
    exact ⟨rfl, rfl⟩
theorem numsOf_num : ∀ (l : List Int), (∀ n ∈ l, -9223372036854775808 ≤ n ∧ n ≤ 9223372036854775807) → numsOf (l.map num) = some l
  | [], _ => rfl
  | n :: l, h => by
    have hn := h n (by simp)
    rw [List.map_cons, numsOf, numOf_num n hn.1 hn.2, Option.bind_some, numsOf_num l fun m hm => h m (by simp [hm])]
    rfl
theorem wordy_store : Wordy storeL := wordy_plain (by decide) (by decide)
theorem store_words (l : List Int) : storeL ++ numsT l = storeL ++ ((l.map num).map ([32] ++ ·)).flatten := by
  unfold numsT
  rw [List.map_map]
  rfl
theorem cut_store (l : List Int) : cutP (storeL ++ numsT l) = some (storeL :: l.map num) := by
  rw [store_words]
  refine cutP_words wordy_store (fun x hx => ?_) (by decide)
  obtain ⟨f, _, rfl⟩ := List.mem_map.1 hx
  exact wordy_num f
theorem head_store (l : List Int) (hl : l.length = 6) (h : ∀ n ∈ l, -9223372036854775808 ≤ n ∧ n ≤ 9223372036854775807) : headP (storeL :: l.map num) = some l := by
  unfold headP
  rw [if_pos ⟨rfl, by simp [hl]⟩]
  exact numsOf_num l h
theorem store_no10 (l : List Int) : ∀ c ∈ storeL ++ numsT l, c ≠ 10 := by
  intro c hc
  rcases List.mem_append.1 hc with hc | hc
  · rintro rfl
    exact absurd hc (by decide)
  · unfold numsT at hc
    obtain ⟨x, hx, hd⟩ := List.mem_flatten.1 hc
    obtain ⟨f, _, rfl⟩ := List.mem_map.1 hx
    rcases List.mem_append.1 hd with hd | hd
    · simp only [List.mem_singleton] at hd
      rw [hd]
      decide
    · have := (num_bytes _).2 c hd
      rintro rfl
      simp at this
theorem op_no10 (o : Sp) : ∀ c ∈ opT o, c ≠ 10 := by
  intro c hc
  have := line_bytes o c hc
  rintro rfl
  simp at this
theorem opT_ne (o : Sp) : opT o ≠ [] := by
  unfold opT
  have := (wrd_bytes _ (kdN_lt o.kind)).1
  intro e
  exact this (List.append_eq_nil_iff.1 e).1
theorem take_op_line (h : List Int) (L : List Sp) (o : Sp) (ho : Ok o) : takeP ⟨some h, L⟩ (opT o) = some ⟨some h, L ++ [plainP o]⟩ := by
  unfold takeP
  rw [cut_opT]
  simp only
  rw [step_opT o ho]
  rfl
theorem parse_ops (h : List Int) : ∀ (L A : List Sp) (n : Nat), (∀ o ∈ L, Ok o) → parseT ⟨some h, A⟩ n (opsT L) = .ok h (A ++ L.map plainP)
  | [], A, n, _ => by
    have : opsT [] = [] := rfl
    rw [this, parseT_nil]
    simp
  | o :: L, A, n, hL => by
    have e : opsT (o :: L) = opT o ++ 10 :: opsT L := by simp [opsT]
    have h1 := line_app (op_no10 o) (opsT L)
    rw [e, parseT_go (r' := ⟨some h, A ++ [plainP o]⟩) (by simp) (by rw [h1.1]; exact take_op_line h A o (hL o (by simp))), h1.2, parse_ops h L _ _ fun x hx => hL x (by simp [hx])]
    simp
/-- a script's text is read as the script with plain steps -/
theorem parse_printT (h : List Int) (hl : h.length = 6) (hh : ∀ n ∈ h, -9223372036854775808 ≤ n ∧ n ≤ 9223372036854775807) (L : List Sp) (hL : ∀ o ∈ L, Ok o) : parseP (printT h L) = .ok h (L.map plainP) := by
  unfold parseP printT
  have h1 := line_app (store_no10 h) (opsT L)
  rw [List.append_assoc (storeL ++ numsT h), List.singleton_append]
  rw [parseT_go (r' := ⟨some h, []⟩) (by simp) (by rw [h1.1]; unfold takeP; rw [cut_store]; simp only; rw [head_store h hl hh]; rfl), h1.2, parse_ops h L _ _ hL]
  rfl
end Go.Proofs.YtpnnlfhknnnfhaaGreatDoor
