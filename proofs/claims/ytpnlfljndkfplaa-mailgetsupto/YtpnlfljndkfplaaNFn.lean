/- mail's isRep, isOfKind, cartsRise, Check. -/
import Derived.Test.YtpnlfljndkfplaaNKm
namespace Go.Proofs.Ytpnlfljndkfplaa
open Go.RowKit
attribute [local go_sem ↓] ldP_eq stP_eq ldM_eq stM_eq
attribute [local go_sem] zero_PC to_MC MC_s0 MC_s1 MC_s2 MC_s3 MC_s4 MC_s5
variable {w w' : World} {g : Nat}

theorem isRep_any (r : Int) (w : World) : Calls Try.prog 33 #[.int .i64 r] w fun e w' => e = .returned (.bool (isR r)) ∧ w' = w := by
  by_cases h0 : 0 ≤ r
  · by_cases h1 : r < 16
    · have HR : Hid (isR r = true) := by show _ = _; unfold isR; exact decide_eq_true ⟨h0, h1⟩
      go_enter Try.func33, Try.ntmps33
      go_wp2
      go_ret
      exact ⟨ret_bool HR.out.symm, rfl⟩
    · have HR : Hid (isR r = false) := by show _ = _; unfold isR; exact decide_eq_false (fun h => h1 h.2)
      go_enter Try.func33, Try.ntmps33
      go_wp2
      go_ret
      exact ⟨ret_bool HR.out.symm, rfl⟩
  · have HR : Hid (isR r = false) := by show _ = _; unfold isR; exact decide_eq_false (fun h => h0 h.1)
    go_enter Try.func33, Try.ntmps33
    go_wp2
    go_ret
    exact ⟨ret_bool HR.out.symm, rfl⟩
/-- the mail is boxed -/
structure Bx (w w1 : World) (g : Nat) (m : Ml) : Prop where
  box : MBox w1 g m
  bel : Below w.heap.size w w1
theorem bx_new (w : World) (m : Ml) {w1 : World} {g : Nat} (h1 : w.alloc (.cells (MC m) 24) = w1) (h2 : w.heap.size = g) : Bx w w1 g m := by
  subst h1 h2
  exact ⟨mbox_new w m, below_new _ _⟩
set_option maxRecDepth 100000 in
theorem isOfKind_any (a b c d e : Int) (po : Option Addr) (pn pc : Nat) (_ : pn ≤ 4398046511104) (_ : e ≤ 9223372036854775807) (w : World) : Calls Try.prog 34 #[MV ⟨a, b, c, d, e, po, pn, pc⟩] w fun r w' => r = .returned (.bool (ofKind ⟨a, b, c, d, e, po, pn, pc⟩)) ∧ Below w.heap.size w w' := by
  obtain ⟨w1, hw1⟩ : ∃ w1, w.alloc (.cells (MC ⟨a, b, c, d, e, po, pn, pc⟩) 24) = w1 := ⟨_, rfl⟩
  obtain ⟨g, hg⟩ : ∃ g, w.heap.size = g := ⟨_, rfl⟩
  have HX := hide (bx_new w ⟨a, b, c, d, e, po, pn, pc⟩ hw1 hg)
  have x0 := HX.out.box.c0
  have x3 := HX.out.box.c3
  have x4 := HX.out.box.c4
  have x5 := HX.out.box.c5
  simp only at x0 x3 x4 x5

  have HB : Hid (Below g w w1) := by rw [← hg]; exact HX.out.bel
  by_cases h1 : d < 0
  · skip
    have HV : Hid (ofKind ⟨a, b, c, d, e, po, pn, pc⟩ = false) := by show _ = _; unfold ofKind; rw [if_pos (Or.inl h1)]
    go_enter Try.func34, Try.ntmps34
    go_wp2
    go_ret
    exact ⟨ret_bool (by rw [HV.out]; first | done | rfl | (by_cases q2 : pn = 0 <;> simp [q2])), by first | exact HB.out | (rw [hg]; exact HB.out)⟩
  by_cases h2 : e < d
  · skip
    have HV : Hid (ofKind ⟨a, b, c, d, e, po, pn, pc⟩ = false) := by show _ = _; unfold ofKind; rw [if_pos (Or.inr (Or.inl h2))]
    go_enter Try.func34, Try.ntmps34
    go_wp2
    go_ret
    exact ⟨ret_bool (by rw [HV.out]; first | done | rfl | (by_cases q2 : pn = 0 <;> simp [q2])), by first | exact HB.out | (rw [hg]; exact HB.out)⟩
  by_cases h3 : 4611686018427387904 < e
  · skip
    have HV : Hid (ofKind ⟨a, b, c, d, e, po, pn, pc⟩ = false) := by show _ = _; unfold ofKind; rw [if_pos (Or.inr (Or.inr h3))]
    go_enter Try.func34, Try.ntmps34
    go_wp2
    go_ret
    exact ⟨ret_bool (by rw [HV.out]; first | done | rfl | (by_cases q2 : pn = 0 <;> simp [q2])), by first | exact HB.out | (rw [hg]; exact HB.out)⟩
  have hk : ofKind ⟨a, b, c, d, e, po, pn, pc⟩ = kindB ⟨a, b, c, d, e, po, pn, pc⟩ := by unfold ofKind; rw [if_neg (fun h => h.elim h1 (fun h => h.elim h2 h3))]
  have HKB := hide hk
  clear hk
  by_cases k1 : a = 1
  · subst k1
    have HV : Hid (ofKind ⟨1, b, c, d, e, po, pn, pc⟩ = true) := by show _ = _; rw [HKB.out]; unfold kindB; rw [if_pos rfl]
    go_enter Try.func34, Try.ntmps34
    go_wp2
    go_ret
    exact ⟨ret_bool (by rw [HV.out]; first | done | rfl | (by_cases q2 : pn = 0 <;> simp [q2])), by first | exact HB.out | (rw [hg]; exact HB.out)⟩
  by_cases k2 : a = 2
  · subst k2
    have HV : Hid (ofKind ⟨2, b, c, d, e, po, pn, pc⟩ = decide (d = 0)) := by show _ = _; rw [HKB.out]; unfold kindB; rw [if_neg (by simp), if_pos rfl]
    go_enter Try.func34, Try.ntmps34
    go_wp2
    go_ret
    exact ⟨ret_bool (by rw [HV.out]; first | done | rfl | (by_cases q2 : pn = 0 <;> simp [q2])), by first | exact HB.out | (rw [hg]; exact HB.out)⟩
  by_cases k3 : a = 3
  · subst k3
    by_cases q : d = 0
    · subst q
      have HV : Hid (ofKind ⟨3, b, c, 0, e, po, pn, pc⟩ = decide ((0 : Int) = 0 ∧ pn = 0)) := by show _ = _; rw [HKB.out]; unfold kindB; rw [if_neg (by simp), if_neg (by simp), if_pos rfl]
      go_enter Try.func34, Try.ntmps34
      go_wp2
      go_ret
      exact ⟨ret_bool (by rw [HV.out]; first | done | rfl | (by_cases q2 : pn = 0 <;> simp [q2])), by first | exact HB.out | (rw [hg]; exact HB.out)⟩
    · have qd : decide (d = 0) = false := decide_eq_false q
      have HV : Hid (ofKind ⟨3, b, c, d, e, po, pn, pc⟩ = false) := by show _ = _; rw [HKB.out]; unfold kindB; rw [if_neg (by simp), if_neg (by simp), if_pos rfl]; exact decide_eq_false (fun h => q h.1)
      go_enter Try.func34, Try.ntmps34
      go_wp2
      go_ret
      exact ⟨ret_bool (by rw [HV.out]; first | done | rfl | (by_cases q2 : pn = 0 <;> simp [q2])), by first | exact HB.out | (rw [hg]; exact HB.out)⟩
  by_cases k4 : a = 4
  · subst k4
    have HV : Hid (ofKind ⟨4, b, c, d, e, po, pn, pc⟩ = decide (e = 0)) := by show _ = _; rw [HKB.out]; unfold kindB; rw [if_neg (by simp), if_neg (by simp), if_neg (by simp), if_pos (Or.inl rfl)]
    go_enter Try.func34, Try.ntmps34
    go_wp2
    go_ret
    exact ⟨ret_bool (by rw [HV.out]; first | done | rfl | (by_cases q2 : pn = 0 <;> simp [q2])), by first | exact HB.out | (rw [hg]; exact HB.out)⟩
  by_cases k5 : a = 5
  · subst k5
    have HV : Hid (ofKind ⟨5, b, c, d, e, po, pn, pc⟩ = decide (e = 0)) := by show _ = _; rw [HKB.out]; unfold kindB; rw [if_neg (by simp), if_neg (by simp), if_neg (by simp), if_pos (Or.inr rfl)]
    go_enter Try.func34, Try.ntmps34
    go_wp2
    go_ret
    exact ⟨ret_bool (by rw [HV.out]; first | done | rfl | (by_cases q2 : pn = 0 <;> simp [q2])), by first | exact HB.out | (rw [hg]; exact HB.out)⟩
  by_cases k6 : a = 6
  · subst k6
    have hw : wrap64 (d + 1) = d + 1 := w64 (by omega) (by omega)
    have HV : Hid (ofKind ⟨6, b, c, d, e, po, pn, pc⟩ = decide (e = d + 1)) := by show _ = _; rw [HKB.out]; unfold kindB; rw [if_neg (by simp), if_neg (by simp), if_neg (by simp), if_neg (by simp), if_pos rfl]
    go_enter Try.func34, Try.ntmps34
    go_wp2
    go_ret
    exact ⟨ret_bool (by rw [HV.out]; first | done | rfl | (by_cases q2 : pn = 0 <;> simp [q2])), by first | exact HB.out | (rw [hg]; exact HB.out)⟩
  have HV : Hid (ofKind ⟨a, b, c, d, e, po, pn, pc⟩ = false) := by show _ = _; rw [HKB.out]; unfold kindB; rw [if_neg k1, if_neg k2, if_neg k3, if_neg (fun h => h.elim k4 k5), if_neg k6]
  go_enter Try.func34, Try.ntmps34
  go_wp2
  go_ret
  exact ⟨ret_bool (by rw [HV.out]; first | done | rfl | (by_cases q2 : pn = 0 <;> simp [q2])), by first | exact HB.out | (rw [hg]; exact HB.out)⟩
theorem rise_step (X : List Pt) : ∀ (b : Int) (k : Nat), k < X.length → rise b (X.drop k) = (decide (b < (X.getD k pt0).cart ∧ (X.getD k pt0).cart < 64) && rise (X.getD k pt0).cart (X.drop (k + 1))) := fun b k hk => by
  rw [List.drop_eq_getElem_cons hk]
  have e : X.getD k pt0 = X[k] := by simp [List.getD, hk]
  rw [e]
  rfl
set_option maxRecDepth 100000 in
theorem cartsRise_any (ao : Option Addr) (n c : Nat) (X : List Pt) (w : World) (S : PSrc w ao n c X) : Calls Try.prog 35 #[.slice ao n c] w fun r w' => r = .returned (.bool (rise (-1) X)) ∧ Below w.heap.size w w' := by
  have HS := hide S
  have HN : Hid (n ≤ 4398046511104 ∧ X.length = n) := ⟨S.big, S.len⟩
  clear S
  go_enter Try.func35, Try.ntmps35
  go_wp2_with fail
  go_loopw [3, 8] (fun b i wr => ∃ k : Nat, k ≤ n ∧ i = .int .i64 k ∧ ∃ z : Int, b = .int .i64 z ∧ Hid (rise (-1) X = rise z (X.drop k)) ∧ Hid (Below w.heap.size w wr)) (fun _ i _ => n - (intOf i).toNat)
  case atStart => exact ⟨0, Nat.zero_le _, rfl, -1, rfl, by rw [List.drop_zero]; exact rfl, Below.refl _ _⟩
  case round =>
    obtain ⟨k, hk, rfl, z, rfl, HE, HB⟩ := hrel
    by_cases hlt : k < n
    · have HK1 : Hid (wrap64 ((k : Int) + 1) = ((k + 1 : Nat) : Int)) := by show _ = _; have := HN.out; rw [w64 (by omega) (by omega)]; rfl
      have HLT := hide hlt
      obtain ⟨bb, oo, rfl, A0⟩ := (HS.out.below HB.out).at k hlt
      have HR := hide (HE.out.trans (rise_step X z k (by have := HN.out; omega)))
      obtain ⟨p, hp⟩ : ∃ p, X.getD k pt0 = p := ⟨_, rfl⟩
      rw [hp] at A0 HR
      have hld := run_ldP A0
      obtain ⟨gx, hgx⟩ : ∃ gx, wr.heap.size = gx := ⟨_, rfl⟩
      obtain ⟨wk, hst, X1, B1, Z1⟩ := madeP wr p gx hgx
      have HB2 := hide (HB.out.trans (B1.mono HB.out.size))
      have d0 := X1.at.c0
      obtain ⟨y, hy⟩ : ∃ y, p.cart = y := ⟨_, rfl⟩
      rw [hy] at d0 HR
      clear A0 X1 B1 Z1 hp hy HB HE
      by_cases q1 : y ≤ z
      · have HV : Hid (rise (-1) X = false) := by show _ = _; rw [HR.out, decide_eq_false (by omega), Bool.false_and]
        clear HR
        go_wp2_with fail
        go_ret
        exact ⟨ret_bool HV.out.symm, HB2.out⟩
      · by_cases q2 : 64 ≤ y
        · have HV : Hid (rise (-1) X = false) := by show _ = _; rw [HR.out, decide_eq_false (by omega), Bool.false_and]
          clear HR
          go_wp2_with fail
          go_ret
          exact ⟨ret_bool HV.out.symm, HB2.out⟩
        · have HV : Hid (rise (-1) X = rise y (X.drop (k + 1))) := by show _ = _; rw [HR.out, decide_eq_true (by omega), Bool.true_and]
          clear HR
          go_wp2_with fail
          go_roundw
          case rel => exact ⟨k + 1, HLT.out, by rw [HK1.out], y, rfl, HV, HB2⟩
          case measure => rw [HK1.out]; have := HLT.out; simp [intOf]; omega
    · have HV : Hid (rise (-1) X = true) := by
        show _ = _
        rw [HE.out, List.drop_eq_nil_of_le (by have := HN.out; omega)]; rfl
      go_wp2_with fail
      go_ret
      exact ⟨ret_bool HV.out.symm, HB.out⟩
end Go.Proofs.Ytpnlfljndkfplaa
