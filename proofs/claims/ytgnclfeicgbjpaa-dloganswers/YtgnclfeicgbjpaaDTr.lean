/- dlog's Trim. -/
import Derived.Test.YtgnclfeicgbjpaaDFn
import Derived.Test.YtgnclfeicgbjpaaDde
import Derived.Lib.OwnBridge
namespace Go.Proofs.Ytgnclfeicgbjpaa
open Go.RowKit Go.Sort
variable {B : Nat} {w w' : World} {g : Nat} {m nx : Int} {Z : List Int} {ao : Option Addr} {cap : Nat}

set_option maxRecDepth 100000 in
theorem delete_none (a : Option Addr) (n c : Nat) (w : World) (h : n ≤ c) : Calls Try.prog 29 #[.slice a n c, .int .i64 0, .int .i64 0] w fun e w' => e = .returned (.slice a n c) ∧ w' = w := by
  go_enter Try.func29, Try.ntmps29
  go_wp2
  all_goals (go_ret; exact ⟨rfl, rfl⟩)
/-- the first j are cut off -/
theorem delete_any (Z : List Int) (ao : Option Addr) (cap j : Nat) (w : World) (O : w.ownsRow B 3 1 (.slice ao Z.length cap) Z.length (ics Z)) (hj : j ≤ Z.length) :
    Calls Try.prog 29 #[.slice ao Z.length cap, .int .i64 0, .int .i64 j] w fun e w' => e = .returned (.slice ao (Z.drop j).length cap) ∧
      w'.ownsRow B 3 1 (.slice ao (Z.drop j).length cap) (Z.drop j).length (ics (Z.drop j)) ∧ Kp w w' w'.heap.size ao := by
  by_cases hv : Value.slice ao Z.length cap = .slice none 0 0
  · simp only [Value.slice.injEq] at hv
    obtain ⟨rfl, h0, rfl⟩ := hv
    have e := List.eq_nil_of_length_eq_zero h0
    subst e
    obtain rfl : j = 0 := by simpa using hj
    refine (delete_none none 0 0 w (Nat.le_refl _)).mono ?_
    rintro e w' ⟨rfl, rfl⟩
    exact ⟨by simp, O, Kp.refl _ _ _⟩
  · obtain ⟨q, cap2, e2, hb, hlt, hn, hm, -, hH⟩ := Go.Lib.holds_of_ownsRow (enc := Value.int .i64) (zs := Z) O hv
    simp only [Value.slice.injEq] at e2
    obtain ⟨rfl, -, rfl⟩ := e2
    refine (AnyG.slices_Delete_int Try.delI q 0 cap 0 j Z w hH hn (by unfold maxLen at hm; omega) (Nat.zero_le _) hj).mono ?_
    rintro e w' ⟨rfl, k, rfl⟩
    have hl : (Z.take 0 ++ Z.drop j ++ List.replicate (j - 0) 0).length = Z.length := by simp; omega
    have h1 := Go.Lib.ownsRow_putRow (q := k) (k := Z.length - j) O hl (by omega)
    have e3 : ((Z.take 0 ++ Z.drop j ++ List.replicate (j - 0) 0).take (Z.length - j)) = Z.drop j := by
      simp only [List.take_zero, List.nil_append]
      rw [List.take_append_of_le_length (by simp), List.take_of_length_le (by simp)]
    rw [e3] at h1
    refine ⟨by simp, by rw [List.length_drop]; exact h1, ⟨rfl, rfl, rfl, by simp [putRow, mapBlock, Sort.ahead], fun i _ _ h2 => ?_⟩⟩
    have := h2 _ rfl
    simp only at this
    simp [putRow, mapBlock, Sort.ahead, Array.getElem?_modify, this]
/-- how many go -/
def cutN (nx : Int) (Z : List Int) (n : Int) : Nat := (btw n (nx - Z.length) nx - (nx - Z.length)).toNat
theorem cutN_le (nx : Int) (Z : List Int) (n : Int) : cutN nx Z n ≤ Z.length ∧ ((cutN nx Z n : Nat) : Int) = btw n (nx - Z.length) nx - (nx - Z.length) := by
  unfold cutN btw
  omega
set_option maxRecDepth 100000 in
theorem trim_any (w : World) (L : Lg B w g m nx Z ao cap) (D : Bd m nx Z) (n : Int) : Calls Try.prog 16 #[ptr g, .int .i64 n] w fun e w' =>
    e = .returned (.int .i64 (cutN nx Z n)) ∧ Lg B w' g m nx (Z.drop (cutN nx Z n)) ao cap ∧ Kp w w' g ao := by
  obtain ⟨h1, h2⟩ := cutN_le nx Z n
  have HW : Hid (wrap64 (btw n (nx - Z.length) nx - (nx - Z.length)) = (cutN nx Z n : Int)) := by
    show _ = _
    rw [← h2]
    exact w64 (by omega) (by have := D.l; omega)
  have HL := hide L
  have HD := hide D
  have H1 := hide h1
  have c1 := L.c1
  clear L D h1 h2
  generalize cutN nx Z n = c at HW H1 ⊢
  go_enter Try.func16, Try.ntmps16
  go_wp2_with fail
  go_quiet (first
    | (go_at_call 10; exact Calls.quiet_of (first_any _ (HL.out.drewN _) HD.out))
    | (go_at_call 17; exact Calls.quiet_of_same (between_any _ _ _ _)))
  rw [HW.out]
  have c2 := (HL.out.drewN nq).c2
  have HL2 := hide (HL.out.drewN nq)
  have HK2 : Hid (Kp w (w.drewN nq) g ao) := Kp.of (below_drewN w nq)
  clear HL HW c1
  generalize w.drewN nq = w1 at *
  go_wp2_with fail
  refine (delete_any Z ao cap c w1 HL2.out.own H1.out).mono ?_
  rintro e w2 ⟨rfl, o2, k2⟩
  have hlt := HL2.out.lt
  have hsz := k2.size
  have hx := (k2.block g hlt (by omega) HL2.out.off).trans HL2.out.box
  have k3 : Kp w1 w2 g ao := ⟨k2.os, k2.tape, k2.output, k2.size, fun i hi _ h => k2.block i hi (by omega) h⟩
  have HK3 := hide (HK2.out.trans k3 (fun ad e => Or.inl ⟨ad, e, rfl⟩))
  have ho := Lg.set2 hx HL2.out.hg o2 HL2.out.off
  rw [List.length_drop] at ho
  have c2' : w2.cell? ⟨g, 2, none⟩ = some (.slice ao Z.length cap) := by simp [World.cell?, hx, GC]
  have f2 : w2.frozen? ⟨g, 2, none⟩ = false := by simp [World.frozen?, hx]
  clear hlt hsz hx k3 k2 o2
  have HR := hide ho
  clear ho
  go_wp2_with fail
  go_ret
  exact ⟨rfl, HR.out.1, HK3.out.trans HR.out.2 (fun ad e => Or.inl ⟨ad, e, rfl⟩)⟩
end Go.Proofs.Ytgnclfeicgbjpaa
