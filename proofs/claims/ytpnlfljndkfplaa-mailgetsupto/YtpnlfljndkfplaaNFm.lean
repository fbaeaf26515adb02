/- Mails in form, plain: their bytes say them. -/
import Derived.Test.YtpnlfljndkfplaaNEo
import Derived.Test.YtpnlfljndkfplaaNBk
namespace Go.Proofs.Ytpnlfljndkfplaa
open Go.RowKit
variable {w w' w2 : World} {g : Nat}

theorem rise_len : ∀ (X : List Pt) (b : Int), -1 ≤ b → b ≤ 63 → rise b X = true → (X.length : Int) ≤ 63 - b
  | [], b, _, h2, _ => by simp; omega
  | p :: X, b, h1, h2, h => by
    unfold rise at h
    rw [Bool.and_eq_true, decide_eq_true_eq] at h
    have := rise_len X p.cart (by omega) (by omega) h.2
    rw [List.length_cons]
    omega
/-- a mail of an argument, in bounds -/
structure MA (w : World) (a b c d e : Int) (po : Option Addr) (pn pc : Nat) (X : List Pt) (Y : List (List Int)) : Prop where
  s : PSrc w po pn pc X
  p : PS w pn X Y
  hi : e ≤ 9223372036854775807
  lens : ∀ k, k < pn → (Y.getD k []).length ≤ 1048576
variable {a b c d e a' b' c' d' e' : Int} {po qo : Option Addr} {pn pc qn qc : Nat} {X X' : List Pt} {Y Y' : List (List Int)}
theorem MA.below (h : MA w a b c d e po pn pc X Y) (hb : Below w.heap.size w w') : MA w' a b c d e po pn pc X Y := ⟨h.s.below hb, h.p.below hb, h.hi, h.lens⟩
theorem pts_mem {q : Prt} (h : q ∈ ptsOf X Y pn) : ∃ k, k < pn ∧ q = ((X.getD k pt0).cart.toNat, Y.getD k []) := by
  unfold ptsOf at h
  rw [List.mem_map] at h
  obtain ⟨k, hk, rfl⟩ := h
  exact ⟨k, List.mem_range.1 hk, rfl⟩
theorem MA.okN (h : MA w a b c d e po pn pc X Y) (hck : ckE ⟨a, b, c, d, e, po, pn, pc⟩ X = 0) : (pmOf a b c d e pn X Y).okN ∧ pn ≤ 64 := by
  have hb := in_bounds hck
  have hr := rise_len X (-1) (by omega) (by omega) hb.2.2.2.2.2.2.2.2.2
  have hl := h.s.len
  refine ⟨⟨?_, ?_, ?_, ?_, ?_, ?_, ?_⟩, by omega⟩
  · show a.toNat ≤ 6; omega
  · show b.toNat ≤ 15; omega
  · show c.toNat ≤ 15; omega
  · show d.toNat ≤ 4611686018427387904; omega
  · show e.toNat ≤ 4611686018427387904; omega
  · show (ptsOf X Y pn).length ≤ 64; rw [ptsOf_len]; omega
  · intro q hq
    obtain ⟨k, hk, rfl⟩ := pts_mem hq
    have h1 := rise_at X (-1) k hb.2.2.2.2.2.2.2.2.2 (by omega)
    have h2 := h.lens k hk
    exact ⟨by simp only; omega, by simp only; omega⟩
theorem partsB_bound : ∀ (P : List Prt), (∀ q ∈ P, q.1 < 64 ∧ q.2.length ≤ 1048576) → (partsB P).length ≤ 1048594 * P.length
  | [], _ => by simp [partsB]
  | q :: P, h => by
    have hq := h q (List.mem_cons_self ..)
    have ih := partsB_bound P (fun x hx => h x (List.mem_cons_of_mem _ hx))
    have e : partsB (q :: P) = partB q ++ partsB P := rfl
    have n1 := numB_nine (n := q.1) (by omega)
    have n2 := numB_nine (n := q.2.length) (by omega)
    rw [e, List.length_append]
    unfold partB frm
    rw [List.length_append, List.length_append, List.length_cons]
    omega
theorem MA.len (h : MA w a b c d e po pn pc X Y) (hck : ckE ⟨a, b, c, d, e, po, pn, pc⟩ X = 0) : (mailB (pmOf a b c d e pn X Y)).length ≤ 70000000 := by
  obtain ⟨hk, h64⟩ := h.okN hck
  obtain ⟨h1, h2, h3, h4, h5, h6, h7⟩ := hk
  have n1 := numB_nine (n := (pmOf a b c d e pn X Y).kind) (by omega)
  have n2 := numB_nine (n := (pmOf a b c d e pn X Y).fr) (by omega)
  have n3 := numB_nine (n := (pmOf a b c d e pn X Y).to_) (by omega)
  have n4 := numB_nine (n := (pmOf a b c d e pn X Y).lo) (by omega)
  have n5 := numB_nine (n := (pmOf a b c d e pn X Y).hi) (by omega)
  have n6 := numB_nine (n := (pmOf a b c d e pn X Y).parts.length) (by omega)
  have n7 := partsB_bound (pmOf a b c d e pn X Y).parts (fun q hq => ⟨(h7 q hq).1, by
    obtain ⟨k, hk, rfl⟩ := pts_mem hq
    exact h.lens k hk⟩)
  unfold mailB
  simp only [List.length_append]
  omega
theorem mailB_inj {p q : Pm} (hp : p.okN) (hq : q.okN) (h : mailB p = mailB q) : p = q := by
  have h1 := pMail_to p [] hp
  have h2 := pMail_to q [] hq
  rw [h, h2] at h1
  simpa using h1.symm
theorem EqQ_iff (h : MA w a b c d e po pn pc X Y) (hck : ckE ⟨a, b, c, d, e, po, pn, pc⟩ X = 0) (h' : MA w2 a' b' c' d' e' qo qn qc X' Y') (hck' : ckE ⟨a', b', c', d', e', qo, qn, qc⟩ X' = 0) :
    mailB (pmOf a b c d e pn X Y) = mailB (pmOf a' b' c' d' e' qn X' Y') ↔ EqQ a a' b b' c c' d d' e e' pn qn X X' Y Y' := by
  have hb := in_bounds hck
  have hb' := in_bounds hck'
  have hr : ∀ k, k < pn → 0 ≤ (X.getD k pt0).cart := fun k hk => by have := rise_at X (-1) k hb.2.2.2.2.2.2.2.2.2 (by rw [h.s.len]; exact hk); omega
  have hr' : ∀ k, k < qn → 0 ≤ (X'.getD k pt0).cart := fun k hk => by have := rise_at X' (-1) k hb'.2.2.2.2.2.2.2.2.2 (by rw [h'.s.len]; exact hk); omega
  constructor
  · intro hm
    have hp := mailB_inj (h.okN hck).1 (h'.okN hck').1 hm
    unfold pmOf at hp
    simp only [Pm.mk.injEq] at hp
    obtain ⟨p1, p2, p3, p4, p5, p6⟩ := hp
    have hn : pn = qn := by rw [← ptsOf_len X Y pn, ← ptsOf_len X' Y' qn, p6]
    subst hn
    refine ⟨by omega, by omega, by omega, by omega, by omega, rfl, fun k hk => ?_⟩
    have e1 : (ptsOf X Y pn)[k]? = some ((X.getD k pt0).cart.toNat, Y.getD k []) := by unfold ptsOf; rw [List.getElem?_map, List.getElem?_range hk]; rfl
    have e2 : (ptsOf X' Y' pn)[k]? = some ((X'.getD k pt0).cart.toNat, Y'.getD k []) := by unfold ptsOf; rw [List.getElem?_map, List.getElem?_range hk]; rfl
    rw [p6, e2] at e1
    simp only [Option.some.injEq, Prod.mk.injEq] at e1
    have := hr k hk
    have := hr' k hk
    exact ⟨by omega, e1.2.symm⟩
  · rintro ⟨rfl, rfl, rfl, rfl, rfl, rfl, hs⟩
    congr 1
    unfold pmOf ptsOf
    congr 1
    refine List.map_congr_left fun k hk => ?_
    have := hs k (List.mem_range.1 hk)
    rw [this.1, this.2]
theorem Oc.append {A B : List Int} (h : Oc A) (k : Oc B) : Oc (A ++ B) := fun t => by
  rw [List.getD_eq_getElem?_getD]
  by_cases ht : t < A.length
  · rw [List.getElem?_append_left ht, ← List.getD_eq_getElem?_getD]
    exact h t
  · rw [List.getElem?_append_right (by omega), ← List.getD_eq_getElem?_getD]
    exact k _
theorem partsB_oc : ∀ (P : List Prt), (∀ q ∈ P, Oc q.2) → Oc (partsB P)
  | [], _ => fun t => by simp [partsB]
  | q :: P, h => by
    have e : partsB (q :: P) = partB q ++ partsB P := rfl
    rw [e]
    unfold partB frm
    exact Oc.append (Oc.append (numB_oct _) (Oc.append (numB_oct _) (h q (List.mem_cons_self ..)))) (partsB_oc P (fun x hx => h x (List.mem_cons_of_mem _ hx)))
theorem MA.oc (h : MA w a b c d e po pn pc X Y) : Oc (mailB (pmOf a b c d e pn X Y)) := by
  unfold mailB
  refine Oc.append (numB_oct _) (Oc.append (numB_oct _) (Oc.append (numB_oct _) (Oc.append (numB_oct _) (Oc.append (numB_oct _) (Oc.append (numB_oct _) (partsB_oc _ fun q hq => ?_))))))
  obtain ⟨k, hk, rfl⟩ := pts_mem hq
  exact (h.p k hk).2.2.2
theorem MA.put (h : MA w a b c d e po pn pc X Y) (hck : ckE ⟨a, b, c, d, e, po, pn, pc⟩ X = 0) : Calls Try.prog 11 #[MV ⟨a, b, c, d, e, po, pn, pc⟩] w fun r w' => PuA w w' (pmOf a b c d e pn X Y) r :=
  put_ok a b c d e po pn pc X Y w h.s h.p hck (by have := h.len hck; omega)
end Go.Proofs.Ytpnlfljndkfplaa
