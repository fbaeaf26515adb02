/- Put and the reference's Put: their contracts. -/
import Derived.Test.YtdilejbdkhkifaaIsN
namespace Go.Proofs.Ytdilejbdkhkifaa
open Go.RowKit
attribute [local go_sem ↓] ld56_eq st56_eq ld55_eq st55_eq
attribute [local go_sem] zeros_VC cells_VA

def putE (r n : Int) : Int := if isR r = true then (if n < 0 then 2 else if 1000000000 < n then 2 else 0) else 3
def putZ (Z : List Int) (r n : Int) : List Int := if putE r n = 0 then short (fset (at' Z) r.toNat n) else []
/-- a list and an error are handed back -/
def Gives2 (w w' : World) (e : Ending) (Z : List Int) (E : Int) : Prop := ∃ ao n c, e = .returned (.tuple #[.slice ao n c, .int .i64 E]) ∧ Src w' ao n c Z ∧ Below w.heap.size w w' ∧ ∀ ad, ao = some ad → w.heap.size ≤ ad.block
theorem src_nil (w : World) : Src w none 0 0 [] := ⟨rfl, fun _ => ⟨rfl, rfl⟩, fun ad h => by cases h⟩
theorem isR_no {r : Int} (h : isR r = false) : r < 0 ∨ 16 ≤ r := by unfold isR at h; simp at h; omega
theorem isR_yes {r : Int} (h : isR r = true) : ∃ k : Nat, r = k ∧ k < 16 := by
  unfold isR at h; simp at h; exact ⟨r.toNat, by omega, by omega⟩
/-- an array variable that is new and filled: the world behind it -/
theorem fresh56 (w w1 : World) (f : Nat → Int) (hb : Below w.heap.size w w1) : ∃ w2 : World, (st56 (.pointer (some ⟨w1.heap.size, 0, none⟩)) (VA f)).run Try.prog (w1.alloc (.cells (VC fun _ => 0) 56)) = .ok () w2 ∧ Arr w2 w1.heap.size 56 f ∧ Below w.heap.size w w2 ∧ Below w1.heap.size w1 w2 :=
  ⟨_, run_st56 (arr_new w1 56 (fun _ => 0)), (arr_new w1 56 (fun _ => 0)).setRow, below_setRow (hb.alloc hb.size _) hb.size, below_setRow ((Below.refl _ _).alloc (Nat.le_refl _) _) (Nat.le_refl _)⟩
theorem fresh55 (w w1 : World) (f : Nat → Int) (hb : Below w.heap.size w w1) : ∃ w2 : World, (st55 (.pointer (some ⟨w1.heap.size, 0, none⟩)) (VA f)).run Try.prog (w1.alloc (.cells (VC fun _ => 0) 55)) = .ok () w2 ∧ Arr w2 w1.heap.size 55 f ∧ Below w.heap.size w w2 ∧ Below w1.heap.size w1 w2 :=
  ⟨_, run_st55 (arr_new w1 55 (fun _ => 0)), (arr_new w1 55 (fun _ => 0)).setRow, below_setRow (hb.alloc hb.size _) hb.size, below_setRow ((Below.refl _ _).alloc (Nat.le_refl _) _) (Nat.le_refl _)⟩

set_option maxHeartbeats 800000 in
theorem put_any (ao : Option Addr) (n cap : Nat) (Z : List Int) (r z : Int) (w : World) (hS : Src w ao n cap Z) :
    Calls Try.prog 24 #[.slice ao n cap, .int .i64 r, .int .i64 z] w fun e w' => Gives2 w w' e (putZ Z r z) (putE r z) := by
  have HS := hide hS
  clear hS
  obtain ⟨x, Hx⟩ : ∃ x, Hid (isR r = x) := ⟨_, rfl⟩
  cases x with
  | false =>
    have HE : Hid (putE r z = 3) := by show _ = _; unfold putE; rw [Hx.out]; rfl
    have HZ : Hid (putZ Z r z = []) := by show _ = _; unfold putZ; rw [HE.out]; rfl
    rw [HE.out, HZ.out]
    go_enter Try.func24, Try.ntmps24
    go_wp2_with (go_at_call 43; refine (isRep_any r _).mono ?_; rintro e w' ⟨rfl, rfl⟩; rw [Hx.out])
    go_ret2
    exact ⟨_, _, _, rfl, src_nil _, Below.refl _ _, fun ad h => by cases h⟩
  | true =>
    obtain ⟨k, rfl, hk⟩ := isR_yes Hx.out
    by_cases h1 : z < 0
    · have HE : Hid (putE k z = 2) := by show _ = _; unfold putE; rw [Hx.out, if_pos rfl, if_pos h1]
      have HZ : Hid (putZ Z k z = []) := by show _ = _; unfold putZ; rw [HE.out]; rfl
      rw [HE.out, HZ.out]
      go_enter Try.func24, Try.ntmps24
      go_wp2_with (go_at_call 43; refine (isRep_any k _).mono ?_; rintro e w' ⟨rfl, rfl⟩; rw [Hx.out])
      go_ret2
      exact ⟨_, _, _, rfl, src_nil _, Below.refl _ _, fun ad h => by cases h⟩
    by_cases h2 : 1000000000 < z
    · have HE : Hid (putE k z = 2) := by show _ = _; unfold putE; rw [Hx.out, if_pos rfl, if_neg h1, if_pos h2]
      have HZ : Hid (putZ Z k z = []) := by show _ = _; unfold putZ; rw [HE.out]; rfl
      rw [HE.out, HZ.out]
      go_enter Try.func24, Try.ntmps24
      go_wp2_with (go_at_call 43; refine (isRep_any k _).mono ?_; rintro e w' ⟨rfl, rfl⟩; rw [Hx.out])
      go_ret2
      exact ⟨_, _, _, rfl, src_nil _, Below.refl _ _, fun ad h => by cases h⟩
    have HE : Hid (putE k z = 0) := by show _ = _; unfold putE; rw [Hx.out, if_pos rfl, if_neg h1, if_neg h2]
    have HZ : Hid (putZ Z k z = short (fset (at' Z) k z)) := by show _ = _; unfold putZ; rw [HE.out]; rfl
    rw [HE.out, HZ.out]
    go_enter Try.func24, Try.ntmps24
    go_wp2_with (go_at_call 43; refine (isRep_any k _).mono ?_; rintro e w' ⟨rfl, rfl⟩; rw [Hx.out])
    refine (meant_any ao n cap Z _ HS.out).mono ?_
    rintro e w1 ⟨rfl, b1⟩
    obtain ⟨w2, s2, a2, b2, _⟩ := fresh56 _ w1 (at' Z) b1
    have A2 := hide a2
    have B3 := hide (b2.setCell (p := ⟨w1.heap.size, k, none⟩) b1.size (.int .i64 z))
    have c2 := a2.cell k hk
    have f2 := a2.frozen k
    have A3 := hide (a2.set k z)
    have l3 := run_ld56 A3.out
    clear a2 b2 b1
    go_wp2_with fail
    refine (list_new _ _).mono ?_
    rintro e w4 ⟨a4, n4, c4, rfl, S, b, F⟩
    have F4 := hide F
    have B4 := hide (B3.out.trans (b.mono B3.out.size))
    have S4 := hide S
    clear b S F
    go_wp2_with fail
    go_ret2
    exact ⟨_, _, _, rfl, S4.out, B4.out, fun ad h => Nat.le_trans B3.out.size (F4.out ad h)⟩

set_option maxHeartbeats 800000 in
theorem refPut_any (ao : Option Addr) (n cap : Nat) (Z : List Int) (r z : Int) (w : World) (hS : Src w ao n cap Z) :
    Calls Try.prog 23 #[.slice ao n cap, .int .i64 r, .int .i64 z] w fun e w' => Gives2 w w' e (putZ Z r z) (putE r z) := by
  have HS := hide hS
  clear hS
  obtain ⟨x, Hx⟩ : ∃ x, Hid (isR r = x) := ⟨_, rfl⟩
  cases x with
  | false =>
    have HE : Hid (putE r z = 3) := by show _ = _; unfold putE; rw [Hx.out]; rfl
    have HZ : Hid (putZ Z r z = []) := by show _ = _; unfold putZ; rw [HE.out]; rfl
    rw [HE.out, HZ.out]
    rcases isR_no Hx.out with h | h
    · go_enter Try.func23, Try.ntmps23
      go_wp2_with fail
      go_ret2
      exact ⟨_, _, _, rfl, src_nil _, Below.refl _ _, fun ad h => by cases h⟩
    · have h' : ¬ r < 0 := by omega
      go_enter Try.func23, Try.ntmps23
      go_wp2_with fail
      go_ret2
      exact ⟨_, _, _, rfl, src_nil _, Below.refl _ _, fun ad h => by cases h⟩
  | true =>
    obtain ⟨k, rfl, hk⟩ := isR_yes Hx.out
    have q1 : ¬ (k : Int) < 0 := by omega
    have q2 : ¬ (16 : Int) ≤ k := by omega
    by_cases h1 : z < 0
    · have HE : Hid (putE k z = 2) := by show _ = _; unfold putE; rw [Hx.out, if_pos rfl, if_pos h1]
      have HZ : Hid (putZ Z k z = []) := by show _ = _; unfold putZ; rw [HE.out]; rfl
      rw [HE.out, HZ.out]
      go_enter Try.func23, Try.ntmps23
      go_wp2_with fail
      go_ret2
      exact ⟨_, _, _, rfl, src_nil _, Below.refl _ _, fun ad h => by cases h⟩
    by_cases h2 : 1000000000 < z
    · have HE : Hid (putE k z = 2) := by show _ = _; unfold putE; rw [Hx.out, if_pos rfl, if_neg h1, if_pos h2]
      have HZ : Hid (putZ Z k z = []) := by show _ = _; unfold putZ; rw [HE.out]; rfl
      rw [HE.out, HZ.out]
      go_enter Try.func23, Try.ntmps23
      go_wp2_with fail
      go_ret2
      exact ⟨_, _, _, rfl, src_nil _, Below.refl _ _, fun ad h => by cases h⟩
    have HE : Hid (putE k z = 0) := by show _ = _; unfold putE; rw [Hx.out, if_pos rfl, if_neg h1, if_neg h2]
    have HZ : Hid (putZ Z k z = short (fset (at' Z) k z)) := by show _ = _; unfold putZ; rw [HE.out]; rfl
    rw [HE.out, HZ.out]
    go_enter Try.func23, Try.ntmps23
    go_wp2_with fail
    refine (full_any ao n cap Z _ HS.out).mono ?_
    rintro e w1 ⟨rfl, b1⟩
    obtain ⟨w2, s2, a2, b2, _⟩ := fresh55 _ w1 (at' Z) b1
    have A2 := hide a2
    have B3 := hide (b2.setCell (p := ⟨w1.heap.size, k, none⟩) b1.size (.int .i64 z))
    have c2 := a2.cell k hk
    have f2 := a2.frozen k
    have A3 := hide (a2.set k z)
    have l3 := run_ld55 A3.out
    clear a2 b2 b1
    go_wp2_with fail
    refine (short_new _ _).mono ?_
    rintro e w4 ⟨a4, n4, c4, rfl, S, b, F⟩
    have F4 := hide F
    have B4 := hide (B3.out.trans (b.mono B3.out.size))
    have S4 := hide S
    clear b S F
    go_wp2_with fail
    go_ret2
    exact ⟨_, _, _, rfl, S4.out, B4.out, fun ad h => Nat.le_trans B3.out.size (F4.out ad h)⟩
end Go.Proofs.Ytdilejbdkhkifaa
