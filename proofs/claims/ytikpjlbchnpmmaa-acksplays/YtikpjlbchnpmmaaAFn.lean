/- acks' New, asPeer, Heard, Of. -/
import Derived.Test.YtikpjlbchnpmmaaATb
namespace Go.Proofs.Ytikpjlbchnpmmaa
open Go.RowKit
attribute [local go_sem] zero_TC
variable {w w' : World} {g : Nat} {r s : Int} {f : Nat → Int}

theorem new_ok (a b : Int) (w : World) (h1 : 1 ≤ a) (h2 : a ≤ 16) (h3 : 0 ≤ b) (h4 : b < a) : Calls Try.prog 17 #[.int .i64 a, .int .i64 b] w fun e w' =>
    e = .returned (.tuple #[ptr w.heap.size, .int .i64 0]) ∧ Tb w' w.heap.size a b (fun _ => 0) ∧ Below w.heap.size w w' ∧ w'.heap.size = w.heap.size + 1 := by
  have HR : Hid (Tb (w.alloc (.cells (TC (tf a b fun _ => 0)) 60)) w.heap.size a b (fun _ => 0)) := tb_new w a b
  go_enter Try.func17, Try.ntmps17
  go_wp2
  go_ret2
  exact ⟨rfl, HR.out, below_new _ _, by simp⟩
def newE (a b : Int) : Int := if a < 1 ∨ 16 < a then 2 else if b < 0 ∨ a ≤ b then 3 else 0
theorem new_bad (a b : Int) (w : World) (h : newE a b ≠ 0) : Calls Try.prog 17 #[.int .i64 a, .int .i64 b] w fun e w' =>
    e = .returned (.tuple #[.pointer none, .int .i64 (newE a b)]) ∧ w' = w := by
  by_cases h1 : a < 1
  · have HE : Hid (newE a b = 2) := by show _ = _; unfold newE; rw [if_pos (Or.inl h1)]
    rw [HE.out]
    clear h HE
    go_enter Try.func17, Try.ntmps17
    go_wp2
    go_ret2
    exact ⟨rfl, rfl⟩
  · by_cases h2 : 16 < a
    · have HE : Hid (newE a b = 2) := by show _ = _; unfold newE; rw [if_pos (Or.inr h2)]
      rw [HE.out]
      clear h HE
      go_enter Try.func17, Try.ntmps17
      go_wp2
      go_ret2
      exact ⟨rfl, rfl⟩
    · have hn : ¬ (a < 1 ∨ 16 < a) := by omega
      by_cases h3 : b < 0
      · have HE : Hid (newE a b = 3) := by show _ = _; unfold newE; rw [if_neg hn, if_pos (Or.inl h3)]
        rw [HE.out]
        clear h HE hn
        go_enter Try.func17, Try.ntmps17
        go_wp2
        go_ret2
        exact ⟨rfl, rfl⟩
      · by_cases h4 : a ≤ b
        · have HE : Hid (newE a b = 3) := by show _ = _; unfold newE; rw [if_neg hn, if_pos (Or.inr h4)]
          rw [HE.out]
          clear h HE hn
          go_enter Try.func17, Try.ntmps17
          go_wp2
          go_ret2
          exact ⟨rfl, rfl⟩
        · exact absurd (by unfold newE; rw [if_neg hn, if_neg (by omega)]) h
def peerE (r s p : Int) : Int := if p < 0 ∨ r ≤ p then 3 else if p = s then 16 else 0
theorem asPeer_any (w : World) (T : Tb w g r s f) (p : Int) : Calls Try.prog 23 #[ptr g, .int .i64 p] w fun e w' => e = .returned (.int .i64 (peerE r s p)) ∧ w' = w := by
  have c0 := T.c0
  have c1 := T.c1
  by_cases h1 : p < 0
  · have HE : Hid (peerE r s p = 3) := by show _ = _; unfold peerE; rw [if_pos (Or.inl h1)]
    rw [HE.out]
    clear HE T
    go_enter Try.func23, Try.ntmps23
    go_wp2
    go_ret
    exact ⟨rfl, rfl⟩
  · by_cases h2 : r ≤ p
    · have HE : Hid (peerE r s p = 3) := by show _ = _; unfold peerE; rw [if_pos (Or.inr h2)]
      rw [HE.out]
      clear HE T
      go_enter Try.func23, Try.ntmps23
      go_wp2
      go_ret
      exact ⟨rfl, rfl⟩
    · have hn : ¬ (p < 0 ∨ r ≤ p) := by omega
      by_cases h3 : p = s
      · have HE : Hid (peerE r s p = 16) := by show _ = _; unfold peerE; rw [if_neg hn, if_pos h3]
        rw [HE.out]
        clear HE T hn
        go_enter Try.func23, Try.ntmps23
        go_wp2
        go_ret
        exact ⟨rfl, rfl⟩
      · have HE : Hid (peerE r s p = 0) := by show _ = _; unfold peerE; rw [if_neg hn, if_neg h3]
        rw [HE.out]
        clear HE T hn
        go_enter Try.func23, Try.ntmps23
        go_wp2
        go_ret
        exact ⟨rfl, rfl⟩
theorem peer_zero {p : Int} (h : peerE r s p = 0) : 0 ≤ p ∧ p < r ∧ p ≠ s := by
  unfold peerE at h
  split at h
  · omega
  · split at h
    · omega
    · omega
/-- the peer's number -/
def ofV (r s : Int) (f : Nat → Int) (p : Int) : Int := if peerE r s p = 0 then f p.toNat else 0
theorem of_any (w : World) (T : Tb w g r s f) (hr : r ≤ 16) (p : Int) : Calls Try.prog 11 #[ptr g, .int .i64 p] w fun e w' => e = .returned (.tuple #[.int .i64 (ofV r s f p), .int .i64 (peerE r s p)]) ∧ w' = w := by
  have HC := hide (asPeer_any w T p)
  by_cases h : peerE r s p = 0
  · obtain ⟨p0, p1, p2⟩ := peer_zero h
    have HV : Hid (ofV r s f p = f p.toNat) := by show _ = _; unfold ofV; rw [if_pos h]
    rw [HV.out, h]
    obtain ⟨k, rfl⟩ : ∃ k : Nat, p = k := ⟨p.toNat, by omega⟩
    rw [Int.toNat_natCast]
    have ck := T.c k (by omega)
    rw [h] at HC
    have hk : (k : Int) < 16 := by omega
    clear HV T h p0 p1 p2
    go_enter Try.func11, Try.ntmps11
    go_wp2_with (go_at_call 23; refine HC.out.mono ?_; rintro e w' ⟨rfl, rfl⟩)
    go_ret2
    exact ⟨rfl, rfl⟩
  · have HV : Hid (ofV r s f p = 0) := by show _ = _; unfold ofV; rw [if_neg h]
    rw [HV.out]
    obtain ⟨e, he⟩ : ∃ e, peerE r s p = e := ⟨_, rfl⟩
    rw [he] at h HC ⊢
    clear HV T he
    go_enter Try.func11, Try.ntmps11
    go_wp2_with (go_at_call 23; refine HC.out.mono ?_; rintro e' w' ⟨rfl, rfl⟩)
    go_ret2
    exact ⟨rfl, rfl⟩
/-- Heard's error; the numbers behind it -/
def heardE (r s p hi : Int) : Int := if peerE r s p = 0 then (if hi < 0 ∨ 4611686018427387904 < hi then 2 else 0) else peerE r s p
def heardF (r s : Int) (f : Nat → Int) (p hi : Int) : Nat → Int := if heardE r s p hi = 0 then fset f p.toNat (max (f p.toNat) hi) else f
theorem heard_any (w : World) (T : Tb w g r s f) (hr : r ≤ 16) (p hi : Int) : Calls Try.prog 10 #[ptr g, .int .i64 p, .int .i64 hi] w fun e w' =>
    e = .returned (.int .i64 (heardE r s p hi)) ∧ Tb w' g r s (heardF r s f p hi) ∧ Fr w w' g := by
  have HC := hide (asPeer_any w T p)
  have HT := hide T
  by_cases h : peerE r s p = 0
  · rw [h] at HC
    by_cases h1 : hi < 0
    · have HE : Hid (heardE r s p hi = 2) := by show _ = _; unfold heardE; rw [if_pos h, if_pos (Or.inl h1)]
      have HF : Hid (heardF r s f p hi = f) := by show _ = _; unfold heardF; rw [HE.out]; rfl
      rw [HE.out, HF.out]
      clear HE HF T h
      go_enter Try.func10, Try.ntmps10
      go_wp2_with (go_at_call 23; refine HC.out.mono ?_; rintro e' w' ⟨rfl, rfl⟩)
      go_ret
      exact ⟨rfl, HT.out, Fr.refl _ _⟩
    · by_cases h2 : 4611686018427387904 < hi
      · have HE : Hid (heardE r s p hi = 2) := by show _ = _; unfold heardE; rw [if_pos h, if_pos (Or.inr h2)]
        have HF : Hid (heardF r s f p hi = f) := by show _ = _; unfold heardF; rw [HE.out]; rfl
        rw [HE.out, HF.out]
        clear HE HF T h
        go_enter Try.func10, Try.ntmps10
        go_wp2_with (go_at_call 23; refine HC.out.mono ?_; rintro e' w' ⟨rfl, rfl⟩)
        go_ret
        exact ⟨rfl, HT.out, Fr.refl _ _⟩
      · have HE : Hid (heardE r s p hi = 0) := by show _ = _; unfold heardE; rw [if_pos h, if_neg (by omega)]
        have HF : Hid (heardF r s f p hi = fset f p.toNat (max (f p.toNat) hi)) := by show _ = _; unfold heardF; rw [if_pos HE.out]
        rw [HE.out, HF.out]
        obtain ⟨p0, p1, p2⟩ := peer_zero h
        obtain ⟨k, rfl⟩ : ∃ k : Nat, p = k := ⟨p.toNat, by omega⟩
        rw [Int.toNat_natCast]
        have ck := T.c k (by omega)
        have fk := T.fz (2 + k)
        have hk : (k : Int) < 16 := by omega
        obtain ⟨z, hz⟩ : ∃ z, f k = z := ⟨_, rfl⟩
        rw [hz] at ck ⊢
        clear HE HF T h p0 p1 p2 hz
        by_cases h3 : hi ≤ z
        · have HM : Hid (max z hi = z) := Int.max_eq_left h3
          rw [HM.out]
          clear HM
          go_enter Try.func10, Try.ntmps10
          go_wp2_with (go_at_call 23; refine HC.out.mono ?_; rintro e' w' ⟨rfl, rfl⟩)
          go_region
          all_goals (go_wp2; go_ret)
          all_goals (exact ⟨rfl, HT.out.set k z, (Fr.setCell _ _ _ _).trans (Fr.drew1 _ _)⟩)
        · have HM : Hid (max z hi = hi) := Int.max_eq_right (by omega)
          rw [HM.out]
          clear HM
          go_enter Try.func10, Try.ntmps10
          go_wp2_with (go_at_call 23; refine HC.out.mono ?_; rintro e' w' ⟨rfl, rfl⟩)
          go_region
          all_goals (go_wp2; go_ret)
          all_goals (exact ⟨rfl, HT.out.set k hi, (Fr.setCell _ _ _ _).trans (Fr.drew1 _ _)⟩)
  · have HE : Hid (heardE r s p hi = peerE r s p) := by show _ = _; unfold heardE; rw [if_neg h]
    have HF : Hid (heardF r s f p hi = f) := by show _ = _; unfold heardF; rw [HE.out, if_neg h]
    rw [HE.out, HF.out]
    obtain ⟨e, he⟩ : ∃ e, peerE r s p = e := ⟨_, rfl⟩
    rw [he] at h HC ⊢
    clear HE HF T he
    go_enter Try.func10, Try.ntmps10
    go_wp2_with (go_at_call 23; refine HC.out.mono ?_; rintro e' w' ⟨rfl, rfl⟩)
    go_ret
    exact ⟨rfl, HT.out, Fr.refl _ _⟩
end Go.Proofs.Ytikpjlbchnpmmaa
