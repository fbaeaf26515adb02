/- counts.isBeforeOne: its contract. -/
import Derived.Test.YtmmgbcmcjakdoaaWCp
import Derived.Test.YtmmgbcmcjakdoaaWSc
namespace Go.Proofs.Ytmmgbcmcjakdoaa
open Go.RowKit Go.Sort V
attribute [local go_sem ↓] ld56_eq st56_eq
attribute [local go_sem] zeros_VC cells_VA

theorem idx_nil (ao : Option Addr) (c : Nat) (v : Value) (w : World) : Calls Try.prog 43 #[.slice ao 0 c, v] w fun e w' => e = .returned (.int .i64 (-1)) ∧ w' = w := by
  go_enter Try.func43, Try.ntmps43
  go_wp2_with fail
  go_loopw [5, 8] (fun _ i wr => i = .int .i64 0 ∧ wr = w) (fun _ _ _ => 0)
  case atStart => exact ⟨rfl, rfl⟩
  case round =>
    obtain ⟨rfl, rfl⟩ := hrel
    go_wp2_with fail
    go_ret
    exact ⟨rfl, rfl⟩
theorem con_nil (ao : Option Addr) (c : Nat) (v : Value) (w : World) : Calls Try.prog 35 #[.slice ao 0 c, v] w fun e w' => e = .returned (.bool false) ∧ w' = w := by
  go_enter Try.func35, Try.ntmps35
  go_wp2_with (go_at_call 43; refine (idx_nil _ _ _ _).mono ?_; rintro e w' ⟨rfl, rfl⟩)
  go_ret
  exact ⟨rfl, rfl⟩
/-- c is Before o -/
def bef (c o : Cn) : Bool := ordF c.1 o.1 == 1
theorem lit_any (c o : Cn) (g : Nat) (w : World) (hA : Arr w g 42 c.1) : Calls Try.prog 36 #[VA o.1, .pointer (some ⟨g, 0, none⟩)] w fun e w' => e = .returned (.bool (bef c o)) ∧ Below w.heap.size w w' := by
  have b1 := below_new w (.cells (VC o.1) 42)
  have l1 := run_ld56 (hA.below b1)
  have l2 := run_ld56 (arr_new w 42 o.1)
  have HB := hide b1
  clear b1 hA
  obtain ⟨z, hz⟩ : ∃ z, ordF c.1 o.1 = z := ⟨_, rfl⟩
  have HZ : Hid (bef c o = (z == 1)) := by show _ = _; unfold bef; rw [hz]
  have HZZ := hide hz
  rw [HZ.out]
  clear hz
  go_enter Try.func36, Try.ntmps36
  go_wp2_with fail
  refine (order_any c.1 o.1 _).mono ?_
  rintro e w2 ⟨rfl, b2⟩
  rw [HZZ.out]
  have HB2 := hide (HB.out.trans (b2.mono HB.out.size))
  clear b2 l1 l2
  go_wp2_with fail
  go_ret
  exact ⟨rfl, HB2.out⟩
/-- a part of a row of counts as it is handed on -/
def PartC (w : World) (A : Option Addr) (m : Nat) (L : List Cn) : Prop := L.length = m ∧ (m = 0 ∨ ∃ q off, A = some ⟨q, off, none⟩ ∧ q < w.heap.size ∧ ∀ j, j < m → ∀ i, i < 16 → w.cell? ⟨q, off + j * 16 + i, none⟩ = some (.int .i64 ((L.getD j c0).1 i)))
theorem PartC.below {w w' : World} {A : Option Addr} {m : Nat} {L : List Cn} (h : PartC w A m L) (hb : Below w.heap.size w w') : PartC w' A m L := by
  refine ⟨h.1, ?_⟩
  rcases h.2 with h0 | ⟨q, off, e, hl, hc⟩
  · exact Or.inl h0
  · exact Or.inr ⟨q, off, e, Nat.lt_of_lt_of_le hl hb.size, fun j hj i hi => (hb.cell hl).trans (hc j hj i hi)⟩
theorem con_any (c : Cn) (A : Option Addr) (m cc : Nat) (L : List Cn) (g : Nat) (w : World) (hA : Arr w g 42 c.1) (hP : PartC w A m L) (hm : m ≤ 1099511627776) :
    Calls Try.prog 35 #[.slice A m cc, .func (.func 36) #[] #[.pointer (some ⟨g, 0, none⟩)]] w fun e w' => e = .returned (.bool (L.any (bef c))) ∧ Below w.heap.size w w' := by
  obtain ⟨hl, hP⟩ := hP
  rcases hP with h0 | ⟨q, off, rfl, hq, hc⟩
  · subst h0
    have e := List.eq_nil_of_length_eq_zero hl
    subst e
    refine (con_nil A cc _ w).mono ?_
    rintro e w' ⟨rfl, rfl⟩
    exact ⟨rfl, Below.refl _ _⟩
  · have eg : ∀ args w, (callFunc 36 args).run Try.prog w = .ok (.enter 36 args) w := enters_of Try.func36 (by kernel_rfl) rfl
    have hp : PredBelow Try.prog 36 #[.pointer (some ⟨g, 0, none⟩)] (fun x => .agg (encC x).toArray) (bef c) w := by
      intro W x hb
      have e : (Value.agg (encC x).toArray) = VA x.1 := by simp [encC, VA]
      show Calls Try.prog 36 #[.agg (encC x).toArray, .pointer (some ⟨g, 0, none⟩)] W _
      rw [e]
      exact (lit_any c x g W (hA.below hb)).mono fun _ _ h => ⟨h.1, hb.trans (h.2.mono hb.size)⟩
    have h := AnyQ.slices_ContainsFunc Try.conC 16 Try.isAgg42 Try.sizeOf42 encC encC_len (bef c) 36 #[.pointer (some ⟨g, 0, none⟩)] eg q off m cc L w hp (by omega) (by omega) hq (fun j hj i v hv => by
      have hi : i < 16 := by have := (List.getElem?_eq_some_iff.1 hv).1; rwa [encC_len] at this
      rw [hc j (by omega) i hi, ← hv, getElem!_pos L j hj]
      have e : L.getD j c0 = L[j] := by simp [List.getD, hj]
      rw [e]
      simp [encC, VC, hi])
    refine Calls.mono h ?_
    rintro e w' ⟨rfl, b⟩
    rw [List.take_of_length_le (by omega)]
    exact ⟨rfl, b⟩
theorem before_any (c : Cn) (A : Option Addr) (m cc : Nat) (L : List Cn) (w : World) (hP : PartC w A m L) (hm : m ≤ 1099511627776) :
    Calls Try.prog 25 #[VA c.1, .slice A m cc] w fun e w' => e = .returned (.bool (L.any (bef c))) ∧ Below w.heap.size w w' := by
  have HA := hide (arr_new w 42 c.1)
  have b1 := below_new w (.cells (VC c.1) 42)
  have HP := hide (hP.below b1)
  have HB := hide b1
  have HM := hide hm
  clear hP b1
  go_enter Try.func25, Try.ntmps25
  go_wp2_with fail
  refine (con_any c A m cc L _ _ HA.out HP.out HM.out).mono ?_
  rintro e w2 ⟨rfl, b2⟩
  have HB2 := hide (HB.out.trans (b2.mono HB.out.size))
  clear b2
  go_wp2_with fail
  go_ret
  exact ⟨rfl, HB2.out⟩
end Go.Proofs.Ytmmgbcmcjakdoaa
