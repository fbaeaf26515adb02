/- acks' Reset, All, Least; the law's same. -/
import Derived.Test.YtikpjlbchnpmmaaAPr
import Derived.Test.YtikpjlbchnpmmaaAcl
namespace Go.Proofs.Ytikpjlbchnpmmaa
open Go.RowKit
variable {w w' : World} {g : Nat} {r s : Int} {f : Nat → Int}

/-! ### rows of numbers -/
def ics (L : List Int) : List Value := L.map (Value.int .i64)
theorem ics_append (L M : List Int) : ics (L ++ M) = ics L ++ ics M := by simp [ics]
theorem ics_length (L : List Int) : (ics L).length = L.length := by simp [ics]
theorem ics_one (L : List Int) : ∀ u ∈ ics L, u.oneCell' = true := by
  intro u hu
  obtain ⟨z, _, rfl⟩ := List.mem_map.1 hu
  rfl
theorem ics_at (L : List Int) (t : Nat) (ht : t < L.length) : (ics L)[t]? = some (.int .i64 (L.getD t 0)) := by
  simp [ics, ht, List.getD]
/-- a part of a row as it is handed to Clone -/
def Part (w : World) (A : Option Addr) (n : Nat) (Y : List Int) : Prop := n = 0 ∨ ∃ b off, A = some ⟨b, off, none⟩ ∧ ∀ t, t < n → w.cell? ⟨b, off + t, none⟩ = some (.int .i64 (Y.getD t 0))
theorem clone_any (A : Option Addr) (n c : Nat) (Y : List Int) (w : World) (hY : Y.length = n) (hP : Part w A n Y) (hn : n ≤ 1000) : Calls Try.prog 24 #[.slice A n c] w fun e w' =>
    ∃ bo c2, e = .returned (.slice bo n c2) ∧ w'.ownsRow w.heap.size 3 1 (.slice bo n c2) n (ics Y) ∧ Below w.heap.size w w' := by
  have fin : ∀ (v : Value) (w2 : World) (xs : List Value), w2.ownsRow w.heap.size 3 1 v n xs → xs = ics Y → v ≠ .slice none 0 0 → Below w.heap.size w w2 →
      ∃ bo c2, (Ending.returned v : Ending) = .returned (.slice bo n c2) ∧ w2.ownsRow w.heap.size 3 1 (.slice bo n c2) n (ics Y) ∧ Below w.heap.size w w2 := by
    rintro v w2 xs o rfl hv b
    rcases o.2 with ⟨h, -⟩ | ⟨q, c2, cur, e, r⟩
    · exact absurd h hv
    · subst e
      exact ⟨_, _, rfl, o, b⟩
  rcases hP with h0 | ⟨b, off, rfl, hc⟩
  · subst h0
    have e := List.eq_nil_of_length_eq_zero hY
    subst e
    cases A with
    | none =>
      refine (AnyG.slices_Clone_int_nil Try.cloneI 0 c w).mono ?_
      rintro e w' ⟨rfl, rfl⟩
      exact ⟨none, 0, rfl, World.ownsRow_nil _ _ _ _, Below.refl _ _⟩
    | some a =>
      refine (AnyG.slices_Clone_int_zero Try.cloneI a c w).mono ?_
      rintro e w' ⟨v, rfl, o, hv, b⟩
      exact fin v w' _ o rfl hv b
  · refine (AnyG.slices_Clone_int Try.cloneI b off n c Y w (by omega) (by omega) (fun j hj => hc j (by omega))).mono ?_
    rintro e w' ⟨v, rfl, o, hv, b2⟩
    exact fin v w' _ o (by rw [List.take_of_length_le (by omega)]; rfl) hv b2
/-- a row of numbers, nil or not -/
structure NSrc (w : World) (ao : Option Addr) (m c : Nat) (Z : List Int) : Prop where
  len : Z.length = m
  nil : ao = none → m = 0 ∧ c = 0
  cell : ∀ ad, ao = some ad → ∀ t, t < m → w.cell? (ad.add t) = some (.int .i64 (Z.getD t 0))
theorem NSrc.below {ao : Option Addr} {m c : Nat} {Z : List Int} (h : NSrc w ao m c Z) (hb : Below w.heap.size w w') : NSrc w' ao m c Z :=
  ⟨h.len, h.nil, fun ad ha t ht => (hb.cell (World.block_lt_of_cell? w _ (h.cell ad ha t ht))).trans (h.cell ad ha t ht)⟩
theorem NSrc.of_own {B m c : Nat} {ao : Option Addr} {Z : List Int} (h : w.ownsRow B 3 1 (.slice ao m c) m (ics Z)) (hl : Z.length = m) : NSrc w ao m c Z := by
  rcases h.2 with ⟨h0, h00⟩ | ⟨q, cap2, cur, hv, r⟩
  · simp only [Value.slice.injEq] at h0
    obtain ⟨rfl, e0, rfl⟩ := h0
    exact ⟨hl, fun _ => ⟨e0, rfl⟩, (fun ad h => by cases h)⟩
  · simp only [Value.slice.injEq, true_and] at hv
    obtain ⟨rfl, rfl⟩ := hv
    refine ⟨hl, fun h => (by cases h), fun ad ha t ht => ?_⟩
    obtain rfl := Option.some.inj ha
    rw [Addr.add_lit, Nat.zero_add, h.cellAt t (by omega), ics_at Z t (by omega)]
theorem NSrc.at {ao : Option Addr} {m c : Nat} {Z : List Int} (h : NSrc w ao m c Z) (k : Nat) (hk : k < m) : ∃ ad, ao = some ad ∧ w.cell? (ad.add k) = some (.int .i64 (Z.getD k 0)) := by
  cases ao with
  | none => have := h.nil rfl; omega
  | some ad => exact ⟨ad, rfl, h.cell ad rfl k hk⟩
def GB (b : Bool) (p : Prop) : Prop := b = true ↔ p
theorem take_eq_step {Y Z : List Int} {k : Nat} (h : ∀ t, t < k → Y.getD t 0 = Z.getD t 0) (e : Y.getD k 0 = Z.getD k 0) : ∀ t, t < k + 1 → Y.getD t 0 = Z.getD t 0 := fun t ht => by
  by_cases x : t = k
  · subst x; exact e
  · exact h t (by omega)
theorem list_ext0 {Y Z : List Int} (hl : Y.length = Z.length) (h : ∀ t, t < Y.length → Y.getD t 0 = Z.getD t 0) : Y = Z := by
  apply List.ext_getElem hl
  intro i h1 h2
  have := h i h1
  simpa [List.getD, h1, h2] using this
set_option maxRecDepth 100000 in
theorem same_any (ao : Option Addr) (n c : Nat) (Y : List Int) (bo : Option Addr) (m c' : Nat) (Z : List Int) (w : World) (hY : NSrc w ao n c Y) (hZ : NSrc w bo m c' Z) (hn : n ≤ 1000) :
    Calls Try.prog 14 #[.slice ao n c, .slice bo m c'] w fun e w' => e = .returned (.bool (decide (Y = Z))) ∧ Below w.heap.size w w' := by
  by_cases hnm : n = m
  · have HY := hide hY
    have HZ := hide hZ
    have HL : Hid (Y.length = Z.length) := by show _ = _; rw [hY.len, hZ.len]; exact hnm
    have HN : Hid (Y.length = n) := hY.len
    subst hnm
    clear hY hZ
    go_enter Try.func14, Try.ntmps14
    go_wp2_with fail
    go_loopw [5] (fun i wr => ∃ k : Nat, k ≤ n ∧ i = .int .i64 k ∧ Hid (∀ t, t < k → Y.getD t 0 = Z.getD t 0) ∧ Hid (Below w.heap.size w wr)) (fun i _ => n - (intOf i).toNat)
    case atStart => exact ⟨0, Nat.zero_le _, rfl, (fun t ht => by omega), Below.refl _ _⟩
    case round =>
      obtain ⟨k, hk, rfl, HE, HB⟩ := hrel
      by_cases hlt : k < n
      · obtain ⟨ad, rfl, c1⟩ := (HY.out.below HB.out).at k hlt
        obtain ⟨bd, rfl, c2⟩ := (HZ.out.below HB.out).at k hlt
        by_cases he : Y.getD k 0 = Z.getD k 0
        · have HE' := hide (take_eq_step HE.out he)
          rw [← he] at c2
          obtain ⟨z, hz⟩ : ∃ z, Y.getD k 0 = z := ⟨_, rfl⟩
          rw [hz] at c1 c2
          clear hz he HE
          go_wp2_with fail
          go_quiet (fail)
          have HB' := hide (HB.out.trans ((below_drewN wr nq).mono HB.out.size))
          clear HB
          go_wp2_with fail
          go_roundw
          case rel => exact ⟨k + 1, by omega, by go_num, HE', HB'⟩
          case measure => simp [intOf]; omega
        · have HF : Hid (decide (Y = Z) = false) := by
            show _ = _
            rw [decide_eq_false]
            intro e; rw [e] at he; exact he rfl
          obtain ⟨z, hz⟩ : ∃ z, Y.getD k 0 = z := ⟨_, rfl⟩
          obtain ⟨y, hy⟩ : ∃ y, Z.getD k 0 = y := ⟨_, rfl⟩
          rw [hz] at c1 he
          rw [hy] at c2 he
          clear hz hy HE
          go_wp2_with fail
          go_quiet (fail)
          have HB' := hide (HB.out.trans ((below_drewN wr nq).mono HB.out.size))
          clear HB
          go_wp2_with fail
          go_ret
          exact ⟨ret_bool HF.out.symm, HB'.out⟩
      · have HF : Hid (decide (Y = Z) = true) := by
          show _ = _
          rw [decide_eq_true]
          exact list_ext0 HL.out (fun t ht => HE.out t (by have := HN.out; omega))
        go_wp2_with fail
        go_ret
        exact ⟨ret_bool HF.out.symm, HB.out⟩
  · have HF : Hid (decide (Y = Z) = false) := by
      show _ = _
      rw [decide_eq_false]
      intro e; rw [e] at hY; exact hnm (hY.len.symm.trans hZ.len)
    rw [HF.out]
    clear HF hY hZ
    go_enter Try.func14, Try.ntmps14
    go_wp2_with fail
    go_ret
    exact ⟨rfl, Below.refl _ _⟩
/-! ### Reset -/
def stB (p v : Value) : Sem Unit := Instr.storeAt 58 p v
theorem stB_eq (p v : Value) : Instr.storeAt 58 p v = stB p v := rfl
theorem sizeB : (Try.prog.info? 58).map (·.size) = some 16 := by kernel_rfl
theorem Tb.reset (T : Tb w g r s f) : ∃ w', (stB (.pointer (some ⟨g, 2, none⟩)) (.agg #[.int .i64 0, .int .i64 0, .int .i64 0, .int .i64 0, .int .i64 0, .int .i64 0, .int .i64 0, .int .i64 0, .int .i64 0, .int .i64 0, .int .i64 0, .int .i64 0, .int .i64 0, .int .i64 0, .int .i64 0, .int .i64 0])).run Try.prog w = .ok () w' ∧ Tb w' g r s (fun _ => 0) ∧ Fr w w' g := by
  have ht : w.there g 2 16 := fun j hj => ⟨by rw [T.c j hj]; rfl, T.fz _⟩
  have h := run_storeAt_mid (P := Try.prog) w g 2 58 #[.int .i64 0, .int .i64 0, .int .i64 0, .int .i64 0, .int .i64 0, .int .i64 0, .int .i64 0, .int .i64 0, .int .i64 0, .int .i64 0, .int .i64 0, .int .i64 0, .int .i64 0, .int .i64 0, .int .i64 0, .int .i64 0] ht sizeB (by simp [Value.oneCell'])
  have key : ∀ (n o : Nat) (w : World) (f : Nat → Int), Tb w g r s f → (∀ k, k < o → f k = 0) → Tb (w.setCells g (2 + o) (List.replicate n (.int .i64 0))) g r s (fun k => if k < o + n then 0 else f k) ∧ Fr w (w.setCells g (2 + o) (List.replicate n (.int .i64 0))) g := by
    intro n
    induction n with
    | zero =>
      intro o w f T h0
      exact ⟨T.congr (fun k _ => by by_cases x : k < o + 0
                                    · rw [if_pos x, h0 k (by omega)]
                                    · rw [if_neg x]), Fr.refl _ _⟩
    | succ n ih =>
      intro o w f T h0
      have T1 := T.set o 0
      obtain ⟨a, b⟩ := ih (o + 1) _ _ T1 (fun k hk => by
        unfold fset
        by_cases x : k = o
        · rw [if_pos x]
        · rw [if_neg x, h0 k (by omega)])
      refine ⟨?_, (Fr.setCell w g (2 + o) (.int .i64 0)).trans b⟩
      refine Tb.congr (w := w.setCells g (2 + o) (List.replicate (n + 1) (.int .i64 0))) a (fun k _ => ?_)
      by_cases x : k < o + 1 + n
      · rw [if_pos x, if_pos (by omega)]
      · rw [if_neg x, if_neg (by omega)]
        unfold fset
        rw [if_neg (by omega)]
  obtain ⟨a, b⟩ := key 16 0 w f T (fun k hk => by omega)
  exact ⟨_, h, a.congr (fun k hk => by rw [if_pos (by omega)]), b⟩
attribute [local go_sem ↓] stB_eq
theorem reset_any (w : World) (T : Tb w g r s f) : Calls Try.prog 9 #[ptr g] w fun e w' => e = .returned (.tuple #[]) ∧ Tb w' g r s (fun _ => 0) ∧ Fr w w' g := by
  obtain ⟨w2, hst, T2, F2⟩ := T.reset
  have HT := hide T2
  have HF := hide F2
  clear T T2 F2
  go_enter Try.func9, Try.ntmps9
  go_wp2
  go_end0
  exact ⟨rfl, HT.out, HF.out⟩
end Go.Proofs.Ytikpjlbchnpmmaa
