/- The law's play: Of, Plan, Least, Reset and other kinds. -/
import Derived.Test.YtikpjlbchnpmmaaAQi
namespace Go.Proofs.Ytikpjlbchnpmmaa
open Go.RowKit
attribute [local go_sem ↓] ldN_eq stN_eq run_eqN
attribute [local go_sem] to_NC NC_s0 NC_s1 NC_s2
variable {w w' w0 : World} {g : Nat} {qs : Nat → Qp} {N : Nat}

/-- what play answers -/
def Plays (w0 : World) (g : Nat) (N : Nat) (e : Ending) (w' : World) : Prop := e = .returned (.bool true) ∧ ∃ qs', QI w0 w' g qs' (N + 1) ∧ InvA qs'
/-- the pair's cells and the step's -/
structure PyF (w0 w : World) (g : Nat) (qs : Nat → Qp) (N : Nat) (k b : Nat) (o : Sp) : Prop where
  Q : QI w0 w g qs N
  S : SB w b o
  hk : k < 4
  n1 : b ≠ g
  n2 : b ≠ (qs k).tb
variable {k b : Nat} {o : Sp}
theorem PyF.below (h : PyF w0 w g qs N k b o) (hb : Below w.heap.size w w') : PyF w0 w' g qs N k b o := ⟨h.Q.below hb, h.S.below hb, h.hk, h.n1, h.n2⟩
theorem pyf_new (Q : QI w0 w g qs N) (hk : k < 4) (o : Sp) : PyF w0 (w.alloc (.cells (SC o) 34)) g qs N k w.heap.size o :=
  ⟨Q.below (below_new _ _), sb_new w o, hk, by have := Q.box.lt; omega, by have := (Q.each k hk).tab.lt; omega⟩
theorem PyF.p0 (h : PyF w0 w g qs N k b o) {f : Nat} (hf : k * 4 = f) : w.cell? ⟨g, f, none⟩ = some (ptr (qs k).tb) := by rw [← hf]; exact h.Q.box.c0 k h.hk
theorem PyF.p1 (h : PyF w0 w g qs N k b o) {f : Nat} (hf : k * 4 = f) : w.cell? ⟨g, f + 1, none⟩ = some (.int .i64 (qs k).r) := by rw [← hf]; exact h.Q.box.c1 k h.hk
theorem PyF.p2 (h : PyF w0 w g qs N k b o) {f : Nat} (hf : k * 4 = f) : w.cell? ⟨g, f + 2, none⟩ = some (.int .i64 (qs k).s) := by rw [← hf]; exact h.Q.box.c2 k h.hk
theorem PyF.p3 (h : PyF w0 w g qs N k b o) {f : Nat} (hf : k * 4 = f) : w.cell? ⟨g, f + 3, none⟩ = some (.slice (qs k).bo (qs k).bn (qs k).bc) := by rw [← hf]; exact h.Q.box.c3 k h.hk
theorem PyF.T (h : PyF w0 w g qs N k b o) : Tb w (qs k).tb (qs k).r (qs k).s (qs k).f := (h.Q.each k h.hk).tab
theorem PyF.B (h : PyF w0 w g qs N k b o) : RSrc w (qs k).bo (qs k).bn (qs k).bc (qs k).L := (h.Q.each k h.hk).src
theorem PyF.drewN (h : PyF w0 w g qs N k b o) (n : Nat) : PyF w0 (w.drewN n) g qs N k b o := h.below (below_drewN _ _)
/-- both answer alike -/
theorem inv_of {q : Qp} (h : Inv q) (p : Int) : ofV q.r q.s (nf q.L) p = ofV q.r q.s q.f p := by
  unfold ofV
  by_cases x : peerE q.r q.s p = 0
  · obtain ⟨p0, p1, p2⟩ := peer_zero x
    rw [if_pos x, if_pos x, h.eq p.toNat (by have := h.r16; omega)]; rfl
  · rw [if_neg x, if_neg x]
theorem inv_plan {q : Qp} (h : Inv q) (p a b : Int) : planV q.r q.s (nf q.L) p a b = planV q.r q.s q.f p a b := by
  unfold planV
  by_cases x : planE q.r q.s p a b = 0
  · have hp : peerE q.r q.s p = 0 := by
      unfold planE at x
      by_cases y : peerE q.r q.s p = 0
      · exact y
      · rw [if_neg y] at x; exact absurd x y
    obtain ⟨p0, p1, p2⟩ := peer_zero hp
    rw [if_pos x, if_pos x, h.eq p.toNat (by have := h.r16; omega)]; rfl
  · rw [if_neg x, if_neg x]
theorem Plays.same (h : PyF w0 w g qs N k b o) (I : InvA qs) : Plays w0 g N (.returned (.bool true)) w := ⟨rfl, qs, h.Q.mono (Nat.le_succ N), I⟩
set_option maxRecDepth 100000 in
theorem play_of (Q : QI w0 w g qs N) (I : InvA qs) (hk : k < 4) (o : Sp) (ho : o.kind = 3) (f : Nat) (hf : k * 4 = f) :
    Calls Try.prog 8 #[.pointer (some ⟨g, f, none⟩), SV o] w fun e w' => Plays w0 g N e w' := by
  obtain ⟨w1, hw1⟩ : ∃ w1, w.alloc (.cells (SC o) 34) = w1 := ⟨_, rfl⟩
  obtain ⟨b, hb⟩ : ∃ b, w.heap.size = b := ⟨_, rfl⟩
  have HF : Hid (PyF w0 w1 g qs N k b o) := by rw [← hw1, ← hb]; exact pyf_new Q hk o
  have s0 := HF.out.S.c0
  rw [ho] at s0
  have s2 := HF.out.S.c2
  have p0 := HF.out.p0 hf
  have HH := hide hf
  have HI := hide I
  have HR : Hid (((qs k).r : Int) ≤ 16) := by show _ ≤ _; have := (I k hk).r16; omega
  obtain ⟨a, ha⟩ : ∃ a, o.a = a := ⟨_, rfl⟩
  rw [ha] at s2
  have HA := hide ha
  clear Q I hf ha
  go_enter Try.func8, Try.ntmps8
  go_wp2_with fail
  clear hw1
  go_quiet ((go_at_call 11; exact Calls.quiet_of_same (of_any _ (HF.out.drewN _).T HR.out _)))
  have HF2 := hide (HF.out.drewN nq)
  clear HF s0 s2 p0
  generalize w1.drewN nq = w2 at *
  have s2 := HF2.out.S.c2
  rw [HA.out] at s2
  have p1 := HF2.out.p1 HH.out
  have p2 := HF2.out.p2 HH.out
  have p3 := HF2.out.p3 HH.out
  have HC : Hid (∀ n, Calls Try.prog 20 #[TV (qs k).r (qs k).s (qs k).bo (qs k).bn (qs k).bc, .int .i64 a] (w2.drewN n) fun e w' => e = .returned (.tuple #[.int .i64 (ofV (qs k).r (qs k).s (qs k).f a), .int .i64 (peerE (qs k).r (qs k).s a)]) ∧ Below w2.heap.size w2 w') := fun n => by
    refine (rof_any _ _ _ (qs k).L a (w2.drewN n) (HF2.out.drewN n).B).mono ?_
    rintro e w' ⟨rfl, b'⟩
    exact ⟨by rw [inv_of (HI.out k HF2.out.hk)], (below_drewN w2 n).trans b'⟩
  obtain ⟨x, hx⟩ : ∃ x, ofV (qs k).r (qs k).s (qs k).f a = x := ⟨_, rfl⟩
  obtain ⟨y, hy⟩ : ∃ y, peerE (qs k).r (qs k).s a = y := ⟨_, rfl⟩
  rw [hx, hy] at HC ⊢
  clear hx hy
  go_wp2_with fail
  go_region_with (go_at_call 20; refine (HC.out 1).mono ?_; rintro e w3 ⟨rfl, b3⟩)
  all_goals (have HP := hide (Plays.same (HF2.out.below b3) HI.out); clear b3; go_wp2_with fail; go_ret; exact HP.out)
end Go.Proofs.Ytikpjlbchnpmmaa
