/- UNu FSl -/
import Derived.Test.YtnghfnhpjdafmaaSl04
import Derived.Test.YtnghfnhpjdafmaaSl29
namespace Go.Proofs.Ytnghfnhpjdafmaa.U
open Go.RowKit

set_option maxHeartbeats 1600000 in
theorem num_any (ao : Option Addr) (n cap : Nat) (Z : List Int) (a : Int) (w : World) (hS : Src w ao n cap Z) (hcap : n ≤ cap) (hn : n ≤ 4611686018427387904) :
    Calls Try.prog 83 #[.slice ao n cap, .int .i64 a] w fun e w' => e = p3 (numA Z a) ∧ w' = w := by
  by_cases h0 : a < 0
  · have HF : Hid (numA Z a = (0, 0, 2)) := by show _ = _; unfold numA; rw [if_pos (Or.inl h0)]
    go_enter Try.func83, Try.ntmps83
    go_wp2
    go_ret3
    exact ⟨by rw [HF.out]; rfl, rfl⟩
  by_cases h1 : (n : Int) < a
  · have HF : Hid (numA Z a = (0, 0, 2)) := by show _ = _; unfold numA; rw [if_pos (Or.inr (by rw [hS.1]; exact h1))]
    go_enter Try.func83, Try.ntmps83
    go_wp2
    go_ret3
    exact ⟨by rw [HF.out]; rfl, rfl⟩
  obtain ⟨k, rfl⟩ : ∃ k : Nat, a = k := ⟨a.toNat, by omega⟩
  have hk : k ≤ n := by omega
  have HF : Hid (numA Z k = if (rdN Z k).2.2 = 0 then ((rdN Z k).1, (k : Int) + (rdN Z k).2.1, 0) else (0, 0, (rdN Z k).2.2)) := by
    show _ = _; unfold numA; rw [if_neg (by rw [hS.1]; omega), Int.toNat_natCast]
  clear h0 h1
  have hF := first_any
  obtain ⟨x, y, e, he⟩ : ∃ x y e, rdN Z k = (x, y, e) := ⟨_, _, _, rfl⟩
  have hC : ∀ ao' cap', Src w ao' (n - k) cap' (Z.drop k) → n - k ≤ cap' → Calls Try.prog 116 #[.slice ao' (n - k) cap'] w fun e' w' => e' = .returned (.tuple #[.int .i64 x, .int .i64 y, .int .i64 e]) ∧ w' = w := by
    intro ao' cap' h1 h2
    have := first_any ao' (n - k) cap' (Z.drop k) w h1 h2 (by omega)
    rw [rdN_drop, he] at this
    exact this
  rw [he] at HF
  have HC := hide hC
  clear hF hC
  have hsz : e = 0 → 0 < y ∧ (k : Int) + y ≤ n := by
    intro h
    have := scan_size Z k 9 0 (by show (rdN Z k).2.2 = 0; rw [he]; exact h)
    have h2 : scan Z k 9 0 = (x, y, e) := he
    rw [h2, hS.1] at this
    exact this
  clear he
  obtain ⟨ao', cap', hcases, S', hle⟩ := hS.sub k hk hcap
  have hCC := hide (HC.out ao' cap' S' hle)
  clear HC S' hle hS
  by_cases h0 : e = 0
  · subst h0
    obtain ⟨y0, y1⟩ := hsz rfl
    rw [if_pos rfl] at HF
    rcases hcases with ⟨rfl, rfl, rfl⟩ | ⟨ad, rfl, rfl, rfl, rfl⟩ | ⟨ad, rfl, hne, rfl, rfl⟩
    · go_enter Try.func83, Try.ntmps83
      go_wp2_with (go_at_call 116; refine hCC.out.mono ?_; rintro e' w' ⟨rfl, rfl⟩)
      go_ret3
      exact ⟨by rw [HF.out]; rfl, rfl⟩
    · omega
    · go_enter Try.func83, Try.ntmps83
      go_wp2_with (go_at_call 116; refine hCC.out.mono ?_; rintro e' w' ⟨rfl, rfl⟩)
      go_ret3
      exact ⟨by rw [HF.out]; rfl, rfl⟩
  · rw [if_neg h0] at HF
    have h0' : (e != 0) = true := by simpa using h0
    clear hsz h0
    rcases hcases with ⟨rfl, rfl, rfl⟩ | ⟨ad, rfl, rfl, rfl, rfl⟩ | ⟨ad, rfl, hne, rfl, rfl⟩
    · go_enter Try.func83, Try.ntmps83
      go_wp2_with (go_at_call 116; refine hCC.out.mono ?_; rintro e' w' ⟨rfl, rfl⟩)
      go_ret3
      exact ⟨by rw [HF.out]; rfl, rfl⟩
    · have hnk : n - cap = 0 := by omega
      rw [hnk] at hCC
      go_enter Try.func83, Try.ntmps83
      go_wp2_with (go_at_call 116; refine hCC.out.mono ?_; rintro e' w' ⟨rfl, rfl⟩)
      go_ret3
      exact ⟨by rw [HF.out]; rfl, rfl⟩
    · go_enter Try.func83, Try.ntmps83
      go_wp2_with (go_at_call 116; refine hCC.out.mono ?_; rintro e' w' ⟨rfl, rfl⟩)
      go_ret3
      exact ⟨by rw [HF.out]; rfl, rfl⟩
theorem numA_rd (Z : List Int) (k : Nat) (hk : k ≤ Z.length) : numA Z k = rdA Z k := by
  unfold numA rdA
  rw [if_neg (by omega), Int.toNat_natCast]
  split
  · rfl
  · rename_i h
    obtain ⟨h1, h2⟩ := scan_err Z k 9 0 h
    have e1 : (rdN Z k).1 = 0 := h1
    have e2 : (rdN Z k).2.1 = 0 := h2
    rw [← e1]
    conv => lhs; rw [show (rdN Z k).1 = (rdN Z k).1 from rfl]
    exact Prod.ext rfl (Prod.ext (e1.trans e2.symm) rfl)
end Go.Proofs.Ytnghfnhpjdafmaa.U
namespace Go.Proofs.Ytnghfnhpjdafmaa
open Go.RowKit

theorem ckF_lt : ∀ (B : List Int) (r : Nat), r < 37 → ckF r B < 37
  | [], r, h => h
  | c :: t, r, _ => ckF_lt t _ (Nat.mod_lt _ (by decide))
theorem ck_inj : ∀ (B : List Int) (r r' : Nat), r < 37 → r' < 37 → ckF r B = ckF r' B → r = r'
  | [], _, _, _, _, h => h
  | c :: t, r, r', h, h', e => by
    have := ck_inj t _ _ (Nat.mod_lt _ (by decide)) (Nat.mod_lt _ (by decide)) e
    omega
theorem ck_one : ∀ (B : List Int) (k r : Nat) (x : Int), r < 37 → k < B.length → ckF r (B.set k x) = ckF r B → (valF x).toNat % 37 = (valF (B.getD k 0)).toNat % 37
  | [], k, _, _, _, hk, _ => absurd hk (Nat.not_lt_zero k)
  | c :: t, 0, r, x, hr, _, e => by
    have := ck_inj t _ _ (Nat.mod_lt _ (by decide)) (Nat.mod_lt _ (by decide)) e
    show _ = (valF c).toNat % 37
    omega
  | c :: t, k + 1, r, x, hr, hk, e => ck_one t k _ x (Nat.mod_lt _ (by decide)) (Nat.lt_of_succ_lt_succ hk) e
theorem ck_two : ∀ (B : List Int) (k r : Nat), r < 37 → k + 1 < B.length → ckF r ((B.set k (B.getD (k + 1) 0)).set (k + 1) (B.getD k 0)) = ckF r B → (valF (B.getD k 0)).toNat % 37 = (valF (B.getD (k + 1) 0)).toNat % 37
  | [], k, _, _, hk, _ => absurd hk (Nat.not_lt_zero _)
  | [c], k, _, _, hk, _ => by simp at hk
  | c :: d :: t, 0, r, hr, _, e => by
    have := ck_inj t _ _ (Nat.mod_lt _ (by decide)) (Nat.mod_lt _ (by decide)) e
    show (valF c).toNat % 37 = (valF d).toNat % 37
    simp only [List.getD_cons_zero, List.getD_cons_succ] at this
    omega
  | c :: d :: t, k + 1, r, hr, hk, e => ck_two (d :: t) k _ (Nat.mod_lt _ (by decide)) (Nat.lt_of_succ_lt_succ hk) e
theorem ch37_inj : ∀ a, a < 37 → ∀ b, b < 37 → ch37 a = ch37 b → a = b := by decide +kernel
/-- a letter's value says it -/
theorem let_eq {x y : Int} (hx : ∃ v, v < 32 ∧ x = lt32 v) (hy : ∃ v, v < 32 ∧ y = lt32 v) (h : (valF x).toNat % 37 = (valF y).toNat % 37) : x = y := by
  obtain ⟨v, hv, rfl⟩ := hx
  obtain ⟨u, hu, rfl⟩ := hy
  rw [valF_lt32 v hv, valF_lt32 u hu, Int.toNat_natCast, Int.toNat_natCast] at h
  rw [show v = u by omega]
theorem mem_getD {L : List Int} {k : Nat} (h : k < L.length) : L.getD k 0 ∈ L := by
  rw [List.getD_eq_getElem?_getD, List.getElem?_eq_getElem h]
  exact List.getElem_mem h
theorem textL_len (c : Int) (P : Pst) : (textL c P).length = (bodyF c P).length + 1 := by simp [textL]
theorem textL_at {c : Int} {P : Pst} {k : Nat} (h : k < (bodyF c P).length) : (textL c P).getD k 0 = (bodyF c P).getD k 0 := by
  unfold textL
  rw [List.getD_eq_getElem?_getD, List.getD_eq_getElem?_getD, List.getElem?_append_left h]
theorem slip1 {c c' : Int} {P P' : Pst} {k : Nat} {x : Int} (hk : k < (textL c P).length) (h : textL c' P' = (textL c P).set k x) : x = (textL c P).getD k 0 := by
  have hl := textL_len c P
  by_cases h1 : k < (bodyF c P).length
  · rw [textL_at h1]
    have e : (textL c P).set k x = (bodyF c P).set k x ++ [ch37 (ckF 0 (bodyF c P))] := by unfold textL; rw [List.set_append_left _ _ h1]
    rw [e] at h
    obtain ⟨e1, e2⟩ := List.append_inj' (show bodyF c' P' ++ [ch37 (ckF 0 (bodyF c' P'))] = _ from h) rfl
    have e3 := ch37_inj _ (ckF_lt _ 0 (by decide)) _ (ckF_lt _ 0 (by decide)) (List.cons.inj e2).1
    rw [e1] at e3
    refine let_eq ?_ ((bodyF_is c P).1 _ (mem_getD h1)) (ck_one _ k 0 x (by decide) h1 e3)
    refine (bodyF_is c' P').1 _ ?_
    rw [e1]
    exact List.mem_set h1 x
  · have h2 : k = (bodyF c P).length := by omega
    have e : (textL c P).set k x = bodyF c P ++ [x] := by unfold textL; rw [List.set_append_right _ _ (by omega), h2, Nat.sub_self]; rfl
    rw [e] at h
    obtain ⟨e1, e2⟩ := List.append_inj' (show bodyF c' P' ++ [ch37 (ckF 0 (bodyF c' P'))] = _ from h) rfl
    have e3 := (List.cons.inj e2).1
    rw [e1] at e3
    rw [← e3]
    unfold textL
    rw [List.getD_eq_getElem?_getD, List.getElem?_append_right (by omega), h2, Nat.sub_self]
    rfl
theorem slip2 {c c' : Int} {P P' : Pst} {k : Nat} (hk : k + 2 < (textL c P).length) (h : textL c' P' = ((textL c P).set k ((textL c P).getD (k + 1) 0)).set (k + 1) ((textL c P).getD k 0)) : (textL c P).getD k 0 = (textL c P).getD (k + 1) 0 := by
  have hl := textL_len c P
  have h1 : k + 1 < (bodyF c P).length := by omega
  have h0 : k < (bodyF c P).length := by omega
  rw [textL_at h1, textL_at h0] at h ⊢
  have e : ((textL c P).set k ((bodyF c P).getD (k + 1) 0)).set (k + 1) ((bodyF c P).getD k 0) = ((bodyF c P).set k ((bodyF c P).getD (k + 1) 0)).set (k + 1) ((bodyF c P).getD k 0) ++ [ch37 (ckF 0 (bodyF c P))] := by
    unfold textL
    rw [List.set_append_left _ _ h0, List.set_append_left _ _ (by rw [List.length_set]; exact h1)]
  rw [e] at h
  obtain ⟨e1, e2⟩ := List.append_inj' (show bodyF c' P' ++ [ch37 (ckF 0 (bodyF c' P'))] = _ from h) rfl
  have e3 := ch37_inj _ (ckF_lt _ 0 (by decide)) _ (ckF_lt _ 0 (by decide)) (List.cons.inj e2).1
  rw [e1] at e3
  exact let_eq ((bodyF_is c P).1 _ (mem_getD h0)) ((bodyF_is c P).1 _ (mem_getD h1)) (ck_two _ k 0 (by decide) h1 e3)
/-- a token's bytes say it -/
theorem tokB_inj {c c' : Int} {P P' : Pst} (h : TokOk c P) (h' : TokOk c' P') (e : tokB c P = tokB c' P') : c = c' ∧ P = P' := by
  have b : ∀ {c P}, TokOk c P → 0 ≤ c ∧ c < 64 := fun h => by have := h.1; simp [isC] at this; exact this
  have b1 := b h
  have b2 := b h'
  have q : U.pNum 64 (tokB c P) = some (c.toNat, pastB P) := U.pNum_to _ (by omega) (by omega)
  have q' : U.pNum 64 (tokB c' P') = some (c'.toNat, pastB P') := U.pNum_to _ (by omega) (by omega)
  rw [e, q'] at q
  simp only [Option.some.injEq, Prod.mk.injEq] at q
  refine ⟨by omega, ?_⟩
  have r := rdPast_to h.2 []
  have r' := rdPast_to h'.2 []
  rw [q.2, r] at r'
  simp only [Option.some.injEq, Prod.mk.injEq, and_true] at r'
  exact r'
theorem textL_inj {c c' : Int} {P P' : Pst} (h : TokOk c P) (h' : TokOk c' P') (e : textL c P = textL c' P') : c = c' ∧ P = P' := by
  obtain ⟨e1, -⟩ := List.append_inj' (show bodyF c P ++ [ch37 (ckF 0 (bodyF c P))] = bodyF c' P' ++ [ch37 (ckF 0 (bodyF c' P'))] from e) rfl
  have u := (un_all _ (tokB_ob c P)).1
  have u' := (un_all _ (tokB_ob c' P')).1
  rw [show spellF 0 0 (tokB c P) = bodyF c P from rfl, e1] at u
  rw [show spellF 0 0 (tokB c' P') = bodyF c' P' from rfl, u] at u'
  exact tokB_inj h h' (Option.some.inj u')
/-- no token's bytes are the beginning of another's -/
theorem tokB_pre {c c' : Int} {P P' : Pst} {R : List Int} (h : TokOk c P) (h' : TokOk c' P') (e : tokB c P = tokB c' P' ++ R) : R = [] := by
  have b : ∀ {c P}, TokOk c P → 0 ≤ c ∧ c < 64 := fun h => by have := h.1; simp [isC] at this; exact this
  have b1 := b h
  have b2 := b h'
  have q : U.pNum 64 (tokB c P) = some (c.toNat, pastB P) := U.pNum_to _ (by omega) (by omega)
  have q' : U.pNum 64 (tokB c' P' ++ R) = some (c'.toNat, pastB P' ++ R) := by unfold tokB; rw [List.append_assoc]; exact U.pNum_to _ (by omega) (by omega)
  rw [e, q'] at q
  simp only [Option.some.injEq, Prod.mk.injEq] at q
  have r := rdPast_to h.2 []
  have r' := rdPast_to h'.2 R
  rw [q.2, ← List.append_nil (pastB P), r] at r'
  simp only [Option.some.injEq, Prod.mk.injEq] at r'
  exact r'.2.symm
end Go.Proofs.Ytnghfnhpjdafmaa
