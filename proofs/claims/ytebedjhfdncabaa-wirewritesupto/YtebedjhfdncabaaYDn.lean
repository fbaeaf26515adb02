/- wire's writer: a number below 0; NewWriter; Done. -/
import Derived.Test.YtebedjhfdncabaaYMe
namespace Go.Proofs.Ytebedjhfdncabaa
open Go.RowKit
variable {w w' w2 : World} {g : Nat}

theorem wspoil_any (ao : Option Addr) (n cap : Nat) (Z : List Int) (sp : Bool) (x : Int) (w : World) (W : Wr w g ao n cap Z sp) (hx : x < 0) :
    Calls Try.prog 5 #[ptr g, .int .i64 x] w fun r w' => r = .returned (.tuple #[]) ∧ Wr w' g none 0 0 [] true ∧ Kp w w' g ao none := by
  have x0 := W.c0
  have x1 := W.c1
  have f0 := frozen_of_box W.box 0
  have hb := set0 (v := .slice none 0 0) W.box
  have y1 := cell_of_box hb 1
  have f1 := frozen_of_box hb 1
  have HB := hide (set1 (v := .bool true) hb)
  simp at y1
  have HF : Hid (Kp w ((w.setCell ⟨g, 0, none⟩ (.slice none 0 0)).setCell ⟨g, 1, none⟩ (.bool true)) g ao none) :=
    ⟨rfl, rfl, rfl, by rw [set_size, set_size]; exact Nat.le_refl _, fun k _ h1 _ => (set_other _ g 1 k _ h1).trans (set_other _ g 0 k _ h1), Or.inl rfl⟩
  clear W hb
  go_enter Try.func5, Try.ntmps5
  go_wp2_with fail
  refine bodyPost_ret (results_none rfl _ _ _) rfl ?_
  exact ⟨rfl, ⟨HB.out, BR.nil _, (fun k hk => by cases hk), fun _ => rfl⟩, HF.out⟩
theorem new_any (w : World) : Calls Try.prog 4 #[] w fun r w' => r = .returned (ptr w.heap.size) ∧ w' = w.alloc (.cells #[.slice none 0 0, .bool false] 46) := by
  go_enter Try.func4, Try.ntmps4
  go_wp2_with fail
  go_ret
  exact ⟨rfl, rfl⟩
theorem wr_new (w : World) : Wr (w.alloc (.cells #[.slice none 0 0, .bool false] 46)) w.heap.size none 0 0 [] false :=
  ⟨heap_alloc_new w _, BR.nil _, (fun k hk => by cases hk), fun h => by cases h⟩
theorem BR.lit (w : World) : BR (w.alloc (.cells #[] 5)) (some ⟨w.heap.size, 0, none⟩) 0 0 [] :=
  ⟨by simp [bcs], .inr ⟨w.heap.size, 0, _, rfl, Nat.zero_le _, heap_alloc_new w _, Nat.le_refl _, by unfold maxLen; omega, by simp, by simp [bcs]⟩⟩
/-- new memory -/
def NewB (w w' : World) (bo : Option Addr) : Prop := Below w.heap.size w w' ∧ ∀ k, blk bo = some k → w.heap.size ≤ k
theorem Ap.fresh {o : Obj} {bo : Option Addr} (h : Ap (w.alloc o) w' (some ⟨w.heap.size, 0, none⟩) bo) : NewB w w' bo := by
  have hs := h.grown.size
  rw [World.size_alloc] at hs
  refine ⟨(below_new w o).trans ⟨h.grown.os, h.grown.tape, h.grown.output, h.grown.size, fun k hk => h.grown.block k (by rw [World.size_alloc]; omega) (fun e => ?_)⟩, fun k hk => ?_⟩
  · have : k = w.heap.size := Option.some.inj e
    omega
  · rcases h.lies with e | ⟨j, e, hj⟩
    · rw [e] at hk
      have : w.heap.size = k := Option.some.inj hk
      omega
    · rw [e] at hk
      have := Option.some.inj hk
      rw [World.size_alloc] at hj
      omega
theorem clone_any (so : Option Addr) (n c : Nat) (Z : List Int) (w : World) (S : BS w so n c Z) (hn : n ≤ 140737488355000) : Calls Try.prog 12 #[.slice so n c] w fun r w' => ∃ bo cc, r = .returned (.slice bo n cc) ∧ BR w' bo n cc Z ∧ NewB w w' bo := by
  have q32 : ∀ (w : World) (a : Option Addr) (n c n' c' : Nat), (binOp .eql 27 (.slice a n c) (.slice none n' c')).run Try.prog w = .ok (.bool a.isNone) w := fun w a n c n' c' => Lib.run_eql_slice_nil w _ _ a n c n' c' Try.underlying27
  cases so with
  | none =>
    obtain ⟨rfl, rfl⟩ := S.nil rfl
    have e := List.eq_nil_of_length_eq_zero S.len
    subst e
    go_enter Try.func12, Try.ntmps12
    go_wp2_with fail
    go_ret
    exact ⟨_, _, rfl, BR.nil _, Below.refl _ _, fun k hk => by cases hk⟩
  | some ad =>
    have HS := hide (S.below (below_new w (.cells #[] 5)))
    have HL := hide (BR.lit w)
    have HN : Hid (0 + n ≤ 140737488355328) := by show _ ≤ _; omega
    clear S hn
    go_enter Try.func12, Try.ntmps12
    go_wp2_with (at_builtin; refine HL.out.appB HS.out HN.out rfl (.tmp 5) (.tmp 6) rfl rfl rfl ?_; intro a5 c5 w5 S5 b5; rw [Nat.zero_add] at S5 ⊢; have HS5 := hide S5; have HB5 := hide b5; clear S5 b5)
    go_ret
    exact ⟨_, _, rfl, HS5.out, HB5.out.fresh⟩
theorem done_ok (ao : Option Addr) (n cap : Nat) (Z : List Int) (w : World) (W : Wr w g ao n cap Z false) (hn : n ≤ 140737488355000) :
    Calls Try.prog 6 #[ptr g] w fun r w' => ∃ bo cc, r = .returned (.tuple #[.slice bo n cc, .int .i64 0]) ∧ BR w' bo n cc Z ∧ NewB w w' bo := by
  have HW := hide W
  have x0 := W.c0
  have x1 := W.c1
  have HN := hide hn
  clear W hn
  go_enter Try.func6, Try.ntmps6
  go_wp2_with fail
  refine (clone_any ao n cap Z w HW.out.row.bs HN.out).mono ?_
  rintro r w2 ⟨bo, cc, rfl, B2, N2⟩
  have HB := hide B2
  have HF := hide N2
  clear B2 N2
  go_wp2_with fail
  go_ret2
  exact ⟨_, _, rfl, HB.out, HF.out⟩
theorem done_sp (ao : Option Addr) (n cap : Nat) (Z : List Int) (w : World) (W : Wr w g ao n cap Z true) :
    Calls Try.prog 6 #[ptr g] w fun r w' => r = .returned (.tuple #[.slice none 0 0, .int .i64 2]) ∧ w' = w := by
  have x1 := W.c1
  clear W
  go_enter Try.func6, Try.ntmps6
  go_wp2_with fail
  go_ret2
  exact ⟨rfl, rfl⟩
end Go.Proofs.Ytebedjhfdncabaa
