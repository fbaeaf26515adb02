/- The law's play: Least, Reset, any other kind. -/
import Derived.Test.YtikpjlbchnpmmaaAAp
namespace Go.Proofs.Ytikpjlbchnpmmaa
open Go.RowKit
variable {w w' w0 : World} {g : Nat} {qs : Nat → Qp} {N : Nat} {k b : Nat} {o : Sp}

theorem lrf_lsf {q : Qp} (h : Inv q) : ∀ k, k ≤ 16 → ((lrf q.s q.L k).2 = false → lsf q.s q.f k = 4611686018427387904) ∧ ((lrf q.s q.L k).2 = true → (lrf q.s q.L k).1 = lsf q.s q.f k)
  | 0, _ => ⟨fun _ => rfl, fun h => by cases h⟩
  | k + 1, hk => by
    obtain ⟨h1, h2⟩ := lrf_lsf h k (by omega)
    have he := h.eq k (by omega)
    have hb := h.bd k (by omega)
    rw [lrf, lsf]
    by_cases hs : (k : Int) = q.s
    · rw [if_pos hs, if_pos hs]; exact ⟨h1, h2⟩
    · rw [if_neg hs, if_neg hs]
      refine ⟨(fun x => by cases x), fun _ => ?_⟩
      show (if (lrf q.s q.L k).2 = false ∨ nbr (k : Int) q.L < (lrf q.s q.L k).1 then nbr (k : Int) q.L else (lrf q.s q.L k).1) = _
      rw [← he]
      cases hx : (lrf q.s q.L k).2 with
      | false =>
        rw [if_pos (Or.inl rfl), h1 hx]
        omega
      | true =>
        rw [h2 hx]
        by_cases hy : q.f k < lsf q.s q.f k
        · rw [if_pos (Or.inr hy)]; omega
        · rw [if_neg (fun z => z.elim (fun a => by cases a) hy)]; omega
theorem lrf_keep (s : Int) (L : List Rn) (k : Nat) (h : (lrf s L k).2 = true) : (lrf s L (k + 1)).2 = true := by
  rw [lrf]; split
  · exact h
  · rfl
theorem lrf_more (s : Int) (L : List Rn) (k : Nat) (h : (lrf s L k).2 = true) : ∀ n, (lrf s L (k + n)).2 = true
  | 0 => h
  | n + 1 => lrf_keep s L (k + n) (lrf_more s L k h n)
theorem lrf_two (s : Int) (L : List Rn) (n : Nat) (h : 2 ≤ n) : (lrf s L n).2 = true := by
  have h2 : (lrf s L 2).2 = true := by
    by_cases h0 : s = 0
    · have : (lrf s L (1 + 1)).2 = true := by rw [lrf, if_neg (by rw [h0]; decide)]
      exact this
    · have : (lrf s L (0 + 1)).2 = true := by rw [lrf, if_neg (by intro e; exact h0 e.symm)]
      exact lrf_keep s L 1 this
  have := lrf_more s L 2 h2 (n - 2)
  rwa [show 2 + (n - 2) = n by omega] at this
/-- what Least tells -/
def leastV (q : Qp) : Int × Bool := if q.r < 2 then (0, false) else (lsf q.s q.f q.r, true)
theorem inv_least {q : Qp} (h : Inv q) : lrf q.s q.L q.r = leastV q := by
  unfold leastV
  have h1 := h.r1
  have h2 := h.s0
  have h3 := h.s1
  by_cases hr : q.r < 2
  · rw [if_pos hr]
    have e : q.r = 0 + 1 := by omega
    have es : ((0 : Nat) : Int) = q.s := by omega
    rw [e, lrf, if_pos es]
    rfl
  · rw [if_neg hr]
    have e2 := lrf_two q.s q.L q.r (by omega)
    exact Prod.ext ((lrf_lsf h q.r h.r16).2 e2) e2
theorem least_all (w : World) (q : Qp) (h : Inv q) (T : Tb w q.tb q.r q.s q.f) : Calls Try.prog 13 #[ptr q.tb] w fun e w' => e = .returned (.tuple #[.int .i64 (leastV q).1, .bool (leastV q).2]) ∧ w' = w := by
  unfold leastV
  by_cases hr : q.r < 2
  · rw [if_pos hr]; exact least_none w T (by omega)
  · rw [if_neg hr]; exact least_any w q.r T h.r16 (by omega)
set_option maxRecDepth 100000 in
theorem play_least (Q : QI w0 w g qs N) (I : InvA qs) (hk : k < 4) (o : Sp) (ho : o.kind = 5) (f : Nat) (hf : k * 4 = f) :
    Calls Try.prog 8 #[.pointer (some ⟨g, f, none⟩), SV o] w fun e w' => Plays w0 g N e w' := by
  obtain ⟨w1, hw1⟩ : ∃ w1, w.alloc (.cells (SC o) 34) = w1 := ⟨_, rfl⟩
  obtain ⟨b, hb⟩ : ∃ b, w.heap.size = b := ⟨_, rfl⟩
  have HF : Hid (PyF w0 w1 g qs N k b o) := by rw [← hw1, ← hb]; exact pyf_new Q hk o
  have s0 := HF.out.S.c0
  rw [ho] at s0
  have p0 := HF.out.p0 hf
  have p1 := HF.out.p1 hf
  have p2 := HF.out.p2 hf
  have p3 := HF.out.p3 hf
  have HI := hide I
  obtain ⟨V, hV⟩ : ∃ V, leastV (qs k) = V := ⟨_, rfl⟩
  have HC : Hid (Calls Try.prog 13 #[ptr (qs k).tb] w1 fun e w' => e = .returned (.tuple #[.int .i64 V.1, .bool V.2]) ∧ w' = w1) := by
    rw [← hV]; exact least_all w1 (qs k) (I k hk) HF.out.T
  have HD : Hid (Calls Try.prog 22 #[TV (qs k).r (qs k).s (qs k).bo (qs k).bn (qs k).bc] w1 fun e w' => e = .returned (.tuple #[.int .i64 V.1, .bool V.2]) ∧ Below w1.heap.size w1 w') := by
    rw [← hV, ← inv_least (I k hk)]; exact rleast_any _ _ _ (qs k).L (qs k).r (I k hk).r16 w1 HF.out.B
  obtain ⟨x, y⟩ := V
  simp only at HC HD
  clear Q I hf hV
  go_enter Try.func8, Try.ntmps8
  go_wp2_with (go_at_call 13; refine HC.out.mono ?_; rintro e w2 ⟨rfl, rfl⟩)
  refine HD.out.mono ?_
  rintro e w3 ⟨rfl, b3⟩
  have HP := hide (Plays.same (HF.out.below b3) HI.out)
  clear b3 HC HD hw1
  go_wp2_with fail
  go_ret
  exact HP.out
set_option maxRecDepth 100000 in
theorem play_other (Q : QI w0 w g qs N) (I : InvA qs) (hk : k < 4) (o : Sp) (h1 : ¬ o.kind = 1) (h2 : ¬ o.kind = 2) (h3 : ¬ o.kind = 3) (h4 : ¬ o.kind = 4) (h5 : ¬ o.kind = 5) (h6 : ¬ o.kind = 6) (h7 : ¬ o.kind = 7) (f : Nat) :
    Calls Try.prog 8 #[.pointer (some ⟨g, f, none⟩), SV o] w fun e w' => Plays w0 g N e w' := by
  obtain ⟨w1, hw1⟩ : ∃ w1, w.alloc (.cells (SC o) 34) = w1 := ⟨_, rfl⟩
  obtain ⟨b, hb⟩ : ∃ b, w.heap.size = b := ⟨_, rfl⟩
  have HF : Hid (PyF w0 w1 g qs N k b o) := by rw [← hw1, ← hb]; exact pyf_new Q hk o
  have s0 := HF.out.S.c0
  have HP := hide (Plays.same HF.out I)
  obtain ⟨K, hK⟩ : ∃ K, o.kind = K := ⟨_, rfl⟩
  rw [hK] at s0 h1 h2 h3 h4 h5 h6 h7
  clear Q I HF hK
  go_enter Try.func8, Try.ntmps8
  go_wp2_with fail
  go_ret
  exact HP.out
theorem PyF.tab (h : PyF w0 w g qs N k b o) {f' : Nat → Int} (T : Tb w' (qs k).tb (qs k).r (qs k).s f') (F : Fr w w' (qs k).tb) : PyF w0 w' g (qset qs k { qs k with f := f' }) N k b o :=
  ⟨h.Q.onTab h.hk T F, h.S.on F h.n2, h.hk, h.n1, by rw [qset_at]; exact h.n2⟩
set_option maxRecDepth 100000 in
theorem play_reset (Q : QI w0 w g qs N) (I : InvA qs) (hk : k < 4) (o : Sp) (ho : o.kind = 7) (f : Nat) (hf : k * 4 = f) :
    Calls Try.prog 8 #[.pointer (some ⟨g, f, none⟩), SV o] w fun e w' => Plays w0 g N e w' := by
  obtain ⟨w1, hw1⟩ : ∃ w1, w.alloc (.cells (SC o) 34) = w1 := ⟨_, rfl⟩
  obtain ⟨b, hb⟩ : ∃ b, w.heap.size = b := ⟨_, rfl⟩
  have HF : Hid (PyF w0 w1 g qs N k b o) := by rw [← hw1, ← hb]; exact pyf_new Q hk o
  have s0 := HF.out.S.c0
  rw [ho] at s0
  have p0 := HF.out.p0 hf
  have HI := hide I
  have HH := hide hf
  clear Q I hf
  go_enter Try.func8, Try.ntmps8
  go_wp2_with fail
  refine (reset_any w1 HF.out.T).mono ?_
  rintro e w2 ⟨rfl, T2, F2⟩
  have HF2 := hide (HF.out.tab T2 F2)
  have d3 := HF2.out.p3 HH.out
  have z3 := HF2.out.Q.box.fz (f + 3)
  have HP : Hid (Plays w0 g N (.returned (.bool true)) (w2.setCell ⟨g, f + 3, none⟩ (.slice none 0 0))) := by
    refine ⟨rfl, _, HF2.out.Q.book HF2.out.hk none 0 0 [] (RSrc.empty _) (by simp) (fun ad e => by cases e) HH.out, ?_⟩
    rw [qset_qset]
    refine HI.out.set ?_
    rw [qset_at]
    exact (HI.out k HF.out.hk).reset
  clear T2 F2 hw1 s0 p0
  go_wp2_with fail
  go_ret
  exact HP.out
end Go.Proofs.Ytikpjlbchnpmmaa
